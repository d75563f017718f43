/- The shortest closed pulse: the document's way. -/
import Derived.Test.YtpjdojjdhbmbjaaSrch
namespace Go.Proofs.Ytpjdojjdhbmbjaa
open Go.RowKit

theorem count_yes {f : List Int → Bool} {p : List (List Int)} {k : Nat} (h : k < p.length) (hf : f (p.getD k []) = true) : ((p.take (k + 1)).filter f).length = ((p.take k).filter f).length + 1 := by
  rw [List.take_succ_eq_append_getElem h, List.filter_append, List.length_append]
  simp [h] at hf
  simp [hf]
theorem count_no {f : List Int → Bool} {p : List (List Int)} {k : Nat} (h : k < p.length) (hf : f (p.getD k []) = false) : ((p.take (k + 1)).filter f).length = ((p.take k).filter f).length := by
  rw [List.take_succ_eq_append_getElem h, List.filter_append, List.length_append]
  simp [h] at hf
  simp [hf]
theorem none_more {l : List Int} {f L : Nat} (h : NoneTo l f L) (hn : (closedL l f L).any pushB = false) : NoneTo l f (L + 1) := fun L' a b => by
  rcases Nat.lt_or_ge L' L with h' | h'
  · exact h L' a h'
  · have : L' = L := by omega
    rw [this]; exact hn
theorem pow_le6 {f i : Nat} (hf : f ≤ 2) (hi : i ≤ 6) : (2 * f + 1) ^ i ≤ 15625 := by
  have h : ∀ f : Fin 3, ∀ i : Fin 7, (2 * f.val + 1) ^ i.val ≤ 15625 := by decide +kernel
  exact h ⟨f, by omega⟩ ⟨i, by omega⟩

set_option maxRecDepth 100000 in
set_option maxHeartbeats 4000000 in
theorem rshortest_c (B : Option Addr) (l : List Int) (cap : Nat) (f : Int) (w : World) (hl : l.length ≤ 1000) (hr : Rd w B (ints l)) :
    Calls Try.prog 55 #[.slice B l.length cap, .int .i64 f] w fun e w' => ∃ n b, e = .returned (.tuple #[.int .i64 n, .bool b, .int .i64 (searchE l 1 f)]) ∧ ShortIs l f n b ∧ Below w.heap.size w w' := by
  have HVS := searched_c B l cap 0 f w (by omega) hr
  rw [search_zero] at HVS
  by_cases hE : searchE l 1 f = 0
  · obtain ⟨_, _, hf1, hf2, ham⟩ := searchE_f hE
    obtain ⟨fn, rfl⟩ := Int.eq_ofNat_of_zero_le (show 0 ≤ f by omega)
    have hfn : fn ≤ 2 := by omega
    have HSH' : Hid (∀ (n : Int) (b : Bool), (∃ L : Nat, 1 ≤ L ∧ L ≤ 6 ∧ n = L ∧ b = true ∧ (closedL l fn L).any pushB = true ∧ NoneTo l fn L) ∨ (n = 0 ∧ b = false ∧ NoneTo l fn 7) → ShortIs l fn n b) :=
      fun n b h => ⟨fun _ => by simpa using h, fun h' => absurd hE h'⟩
    have HC : Hid (∀ L, L ≤ 6 → closedL l fn L = (pulsesL fn L).filter (fun x => closedAllR x l)) := fun L hL => closedL_R ham hL hfn
    generalize ShortIs l fn = SH at HSH'
    rw [hE] at HVS ⊢
    have HV := Lib.hid HVS
    clear HVS hE ham
    go_enter Try.func55, Try.ntmps55
    go_wp2_with (fail)
    refine HV.out.mono ?_
    rintro e w0 ⟨rfl, hb0⟩
    clear HV
    go_wp2_with (fail)
    go_loopw [8, 9, 10, 11] (fun lv _ _ _ wr => ∃ L : Nat, 1 ≤ L ∧ L ≤ 7 ∧ lv = .int .i64 L ∧ Hid (NoneTo l fn L) ∧ Below w.heap.size w wr) (fun lv _ _ _ _ => 7 - (intOf lv).toNat)
    case atStart => exact ⟨1, Nat.le_refl _, by omega, rfl, fun L h1 h2 => by omega, hb0⟩
    case round =>
      obtain ⟨L, hL1, hL7, rfl, hN, hb⟩ := hrel
      clear hb0
      by_cases hL : L ≤ 6
      · go_wp2_with (fail)
        refine (rall_c L fn hL hfn wr).mono ?_
        rintro e w1 ⟨A, c, hs, rfl, hown, htab, hb1⟩
        have hpow := pow_le6 hfn hL
        have hlen := pulsesL_length fn L
        have HC1 := Lib.hid (HC.out L hL)
        have HP := Lib.hid (push_count l fn L)
        have hxl : ∀ i, i < (pulsesL fn L).length → ((pulsesL fn L).getD i []).length ≤ 6 := fun i hi => by
          rw [hlen] at hi
          rw [pulsesL_get hi, pAt_len]; exact hL
        have hln : (pulsesL fn L).length ≤ 15625 := by omega
        clear hpow hlen
        have HX := Lib.hid hxl
        clear hxl
        have hbw := bl_call hb hb1
        generalize pulsesL fn L = P at hown htab HC1 HX hln
        go_wp2_with (fail)
        obtain ⟨wo, rfl⟩ : ∃ wo : World, wo = w1 := ⟨_, rfl⟩
        go_loopw [10, 11] (fun nv iv wr => ∃ (i k : Nat), i ≤ P.length ∧ iv = .int .i64 i ∧ nv = .int .i64 k ∧ k ≤ i ∧ Hid (k = ((P.take i).filter (fun x => closedAllR x l)).length) ∧ Below wo.heap.size wo wr) (fun _ iv _ => P.length - (intOf iv).toNat)
        case atStart => exact ⟨0, 0, Nat.zero_le _, rfl, rfl, Nat.le_refl _, by simp [Hid], Below.refl _ _⟩
        case round =>
          obtain ⟨i, k, hi, rfl, rfl, hki, hk, hb2⟩ := hrel
          by_cases hlt : i < P.length
          · have hro := (own_rd hown).1.later hb2
            obtain ⟨Ak, ck, hk1, hk2⟩ := htab.2 i hlt
            have hrk := (own_rd hk2).1.later hb2
            have hhl : hs.length = P.length := htab.1
            obtain ⟨b, o, rfl, hbl, hc⟩ := hro.at_ (k := i) (by rw [hhl]; exact hlt)
            have hck := hc i _ hk1
            have hx6 := HX.out i hlt
            have H1 := Lib.hid (@count_yes (fun x => closedAllR x l) P i hlt)
            have H2 := Lib.hid (@count_no (fun x => closedAllR x l) P i hlt)
            generalize P.getD i [] = x at hck hrk hx6 H1 H2
            have HQ := Lib.hid (closedIn_c Ak B x l ck cap wr (by omega) (by omega) hrk (hr.later (hbw.trans (hb2.mono hbw.size))))
            generalize closedAllR x l = d at HQ H1 H2
            clear hc hk1 hk2 hhl hro hrk
            cases d with
            | true =>
              go_wp2_with (fail)
              refine HQ.out.mono ?_
              rintro e w4 ⟨rfl, hb4⟩
              go_wp2_with (fail)
              go_roundw
              case rel => exact ⟨i + 1, k + 1, by omega, by go_num, by go_num, by omega, by show _ = _; rw [H1.out trivial, ← hk.out], hb2.trans (hb4.mono hb2.size)⟩
              case measure => simp [intOf]; omega
            | false =>
              go_wp2_with (fail)
              refine HQ.out.mono ?_
              rintro e w4 ⟨rfl, hb4⟩
              go_wp2_with (fail)
              go_roundw
              case rel => exact ⟨i + 1, k, by omega, by go_num, rfl, by omega, by show _ = _; rw [H2.out trivial, ← hk.out], hb2.trans (hb4.mono hb2.size)⟩
              case measure => simp [intOf]; omega
          · obtain rfl : i = P.length := by omega
            have hkk : k = (closedL l fn L).length := by have h := hk.out; rw [List.take_length] at h; rw [HC1.out]; exact h
            have hany : Hid ((closedL l fn L).any pushB = decide (1 < k)) := by show _ = _; rw [HP.out, hkk]
            have hbe := hbw.trans (hb2.mono hbw.size)
            clear hkk hk
            by_cases h1k : 1 < k
            · have hfin : SH L true := HSH'.out _ _ (.inl ⟨L, hL1, hL, rfl, rfl, by rw [hany.out]; simpa using h1k, hN.out⟩)
              have HF := Lib.hid hfin
              clear hfin
              have h1k' : (1 : Int) < (k : Int) := by omega
              go_wp2_with (fail)
              go_ret3
              exact ⟨_, _, rfl, HF.out, hbe⟩
            · have hN' := Lib.hid (none_more hN.out (by rw [hany.out]; simpa using h1k))
              have h1k' : ¬ (1 : Int) < (k : Int) := by omega
              go_wp2_with (fail)
              go_roundw
              case rel => exact ⟨L + 1, by omega, by omega, by go_num, hN'.out, hbe⟩
              case measure => simp [intOf]; omega
      · obtain rfl : L = 7 := by omega
        have hfin : SH 0 false := HSH'.out _ _ (.inr ⟨rfl, rfl, hN.out⟩)
        have HF := Lib.hid hfin
        clear hfin
        go_wp2_with (fail)
        go_ret3
        exact ⟨_, _, rfl, HF.out, hb⟩
  · have hE' : (searchE l 1 f != 0) = true := by simpa using hE
    have HF : Hid (ShortIs l f 0 false) := ⟨fun h => absurd h hE, fun _ => ⟨rfl, rfl⟩⟩
    clear hE
    go_enter Try.func55, Try.ntmps55
    go_wp2_with (fail)
    refine HVS.mono ?_
    rintro e w0 ⟨rfl, hb0⟩
    go_wp2_with (fail)
    go_ret3
    exact ⟨_, _, rfl, HF.out, hb0⟩
end Go.Proofs.Ytpjdojjdhbmbjaa
