/- Searches: the document's and the program's pulses are the same. Which are all zeros. Mathematics, and the document's examination of the arguments. The shortest closed pulse: the document's way. -/
import Derived.Test.YtpjdojjdhbmbjaaAll
import Derived.Test.YtpjdojjdhbmbjaaChk
import Derived.Test.YtpjdojjdhbmbjaaShort
import Derived.Test.YtpjdojjdhbmbjaaDelaysW
namespace Go.Proofs.Ytpjdojjdhbmbjaa
open Go.RowKit

theorem modes_in {l : List Int} (h : areModesL l = true) : ∀ m ∈ l, 0 ≤ m ∧ m ≤ 3 := by
  intro m hm
  obtain ⟨k, hk, rfl⟩ := List.getElem_of_mem hm
  simp only [areModesL, Bool.and_eq_true, isSetL, List.all_eq_true, List.mem_range] at h
  have := h.2 k hk
  simp only [setOk, Bool.and_eq_true, List.getD_eq_getElem?_getD, List.getElem?_eq_getElem hk, Option.getD_some] at this
  exact inB_z.1 this.1
theorem pAt_force (f : Nat) : ∀ n i k, -(f : Int) ≤ (pAt f n i).getD k 0 ∧ (pAt f n i).getD k 0 ≤ f
  | 0, i, k => by simp [pAt]
  | n + 1, i, k => by
    have hm := Nat.mod_lt i (show 0 < 2 * f + 1 by omega)
    have hl := pAt_len f n (i / (2 * f + 1))
    rcases Nat.lt_or_ge k n with h | h
    · have e : (pAt f (n + 1) i).getD k 0 = (pAt f n (i / (2 * f + 1))).getD k 0 := by
        simp only [pAt, List.getD_eq_getElem?_getD, List.getElem?_append]; rw [if_pos (by omega)]
      rw [e]; exact pAt_force f n _ k
    · rcases Nat.lt_or_ge n k with h' | h'
      · have e : (pAt f (n + 1) i).getD k 0 = 0 := by
          rw [List.getD_eq_getElem?_getD, List.getElem?_eq_none (by rw [pAt_len]; omega)]; rfl
        rw [e]; omega
      · have hk : k = n := by omega
        have e : (pAt f (n + 1) i).getD k 0 = -(f : Int) + (i % (2 * f + 1) : Nat) := by
          simp only [pAt, List.getD_eq_getElem?_getD, List.getElem?_append]; rw [if_neg (by omega), hl, hk]; simp
        rw [e]; omega
theorem pulses_at {f n : Nat} {x : List Int} (h : x ∈ pulsesL f n) : ∃ i, i < (2 * f + 1) ^ n ∧ x = pAt f n i := by
  simp only [pulsesL, List.mem_map, List.mem_range] at h
  obtain ⟨i, hi, rfl⟩ := h
  exact ⟨i, hi, rfl⟩
theorem ok_pulse {f n : Nat} {x : List Int} (h : x ∈ pulsesL f n) (hn : n ≤ 6) (hf : f ≤ 2) {m : Int} (hm : 0 ≤ m ∧ m ≤ 3) : Ok x m := by
  obtain ⟨i, _, rfl⟩ := pulses_at h
  exact ⟨by rw [pAt_len]; omega, hm, fun k => by have := pAt_force f n i k; omega⟩
theorem closed_all_same {l : List Int} (hl : areModesL l = true) {f n : Nat} (hn : n ≤ 6) (hf : f ≤ 2) {x : List Int} (h : x ∈ pulsesL f n) : closedAllB x l = closedAllR x l := by
  unfold closedAllB closedAllR
  have hx : ∀ m ∈ l, closedB x m = (endR m x == (0, 0)) := fun m hm => by rw [closedB, end_same (ok_pulse h hn hf (modes_in hl m hm))]
  rw [Bool.eq_iff_iff, List.all_eq_true, List.all_eq_true]
  exact ⟨fun h m hm => by rw [← hx m hm]; exact h m hm, fun h m hm => by rw [hx m hm]; exact h m hm⟩
theorem closedL_R {l : List Int} (hl : areModesL l = true) {f n : Nat} (hn : n ≤ 6) (hf : f ≤ 2) : closedL l f n = (pulsesL f n).filter (fun x => closedAllR x l) :=
  List.filter_congr fun _ hx => closed_all_same hl hn hf hx

/-! The pulse of zeros. -/
theorem pAt_inj (f : Nat) : ∀ n i j, i < (2 * f + 1) ^ n → j < (2 * f + 1) ^ n → pAt f n i = pAt f n j → i = j
  | 0, i, j, hi, hj, _ => by simp at hi hj; omega
  | n + 1, i, j, hi, hj, h => by
    have hb : 0 < 2 * f + 1 := by omega
    obtain ⟨h1, h2⟩ := List.append_inj h (by rw [pAt_len, pAt_len])
    have h3 : i % (2 * f + 1) = j % (2 * f + 1) := by injection h2 with h2; omega
    rw [Nat.pow_succ] at hi hj
    have h4 := pAt_inj f n _ _ ((Nat.div_lt_iff_lt_mul hb).2 hi) ((Nat.div_lt_iff_lt_mul hb).2 hj) h1
    rw [← Nat.div_add_mod i (2 * f + 1), ← Nat.div_add_mod j (2 * f + 1), h3, h4]
theorem pulses_nodup (f n : Nat) : (pulsesL f n).Nodup := by
  rw [List.nodup_iff_pairwise_ne, pulsesL, List.pairwise_map]
  refine List.Pairwise.imp_of_mem (fun {a b} ha hb hab h => ?_) List.pairwise_lt_range
  rw [List.mem_range] at ha hb
  exact absurd (pAt_inj f n a b ha hb h) (by omega)
theorem zero_at (f : Nat) : ∀ n, ∃ i, i < (2 * f + 1) ^ n ∧ pAt f n i = List.replicate n 0
  | 0 => ⟨0, by simp, rfl⟩
  | n + 1 => by
    obtain ⟨i, hi, he⟩ := zero_at f n
    refine ⟨i * (2 * f + 1) + f, ?_, ?_⟩
    · rw [Nat.pow_succ]
      have : (i + 1) * (2 * f + 1) ≤ (2 * f + 1) ^ n * (2 * f + 1) := Nat.mul_le_mul_right _ (by omega)
      rw [Nat.add_mul, Nat.one_mul] at this
      omega
    · rw [pAt_row f n i f (by omega), he, List.replicate_succ']
      congr 2; omega
theorem zero_mem (f n : Nat) : List.replicate n 0 ∈ pulsesL f n := by
  obtain ⟨i, hi, he⟩ := zero_at f n
  rw [← he]; exact List.mem_map.2 ⟨i, List.mem_range.2 hi, rfl⟩
theorem zero_closed (n : Nat) (m : Int) : closedB (List.replicate n 0) m = true := by
  have h := (x_first m n [] n (Nat.le_refl _)).1
  rw [List.append_nil] at h
  rw [closedB_z, List.length_replicate, show (List.replicate n (0 : Int)) = sameRow n 0 from rfl, h]; simp [W2, wrap64]
theorem zero_in (l : List Int) (f n : Nat) : List.replicate n 0 ∈ closedL l f n :=
  List.mem_filter.2 ⟨zero_mem f n, by rw [closedAllB, List.all_eq_true]; exact fun m _ => zero_closed n m⟩
theorem push_zero {x : List Int} : pushB x = false → x = List.replicate x.length 0 := by
  intro h
  rw [pushB, List.any_eq_false] at h
  exact List.eq_replicate_iff.2 ⟨rfl, fun b hb => by simpa using h b hb⟩
theorem push_rep (n : Nat) : pushB (List.replicate n 0) = false := by
  rw [pushB, List.any_eq_false]
  intro x hx
  rw [List.eq_of_mem_replicate hx]; simp
/-- There is a closed pulse that is not all zeros exactly if there is more than one. -/
theorem push_count (l : List Int) (f n : Nat) : (closedL l f n).any pushB = decide (1 < (closedL l f n).length) := by
  have hnd : (closedL l f n).Nodup := (pulses_nodup f n).sublist (List.filter_sublist)
  have hz := zero_in l f n
  have hlen : ∀ x ∈ closedL l f n, x.length = n := fun x hx => pulses_len (List.mem_filter.1 hx).1
  generalize closedL l f n = L at hnd hz hlen
  rw [Bool.eq_iff_iff, List.any_eq_true, decide_eq_true_iff]
  constructor
  · rintro ⟨x, hx, hp⟩
    match L, hnd, hz, hx with
    | [a], _, hz, hx =>
      rw [List.mem_singleton] at hz hx
      rw [hx, ← hz, push_rep] at hp; cases hp
    | a :: b :: t, _, _, _ => simp
  · intro h
    match L, hnd, hlen, h with
    | a :: b :: t, hnd, hlen, _ =>
      by_cases ha : pushB a = true
      · exact ⟨a, by simp, ha⟩
      · refine ⟨b, by simp, ?_⟩
        cases hb : pushB b with
        | true => rfl
        | false =>
          have e1 := push_zero (by simpa using ha : pushB a = false)
          have e2 := push_zero hb
          rw [hlen a (by simp)] at e1
          rw [hlen b (by simp)] at e2
          rw [e1, e2] at hnd
          simp at hnd

theorem search_zero (l : List Int) (f : Int) : searchE l 0 f = searchE l 1 f := by
  unfold searchE
  rw [show inB 0 0 6 = true from rfl, show inB 1 0 6 = true from rfl]

theorem searched_c (A : Option Addr) (l : List Int) (cap : Nat) (n f : Int) (w : World) (hlen : l.length ≤ 9223372036854775806) (hr : Rd w A (ints l)) :
    Calls Try.prog 83 #[.slice A l.length cap, .int .i64 n, .int .i64 f] w fun e w' => e = .returned (.int .i64 (searchE l n f)) ∧ Below w.heap.size w w' := by
  have h1 := rareModes_c A l cap w hlen hr
  have HE : Hid (searchE l n f = if areModesL l && inB n 0 6 && inB f 1 2 then 0 else 1) := rfl
  generalize areModesL l = m at h1 HE
  have H1 := Lib.hid h1
  clear h1
  have HN := fun w => Lib.hid (within_c n 0 6 w)
  have HF := fun w => Lib.hid (within_c f 1 2 w)
  generalize inB n 0 6 = b at HE HN
  generalize inB f 1 2 = c at HE HF
  cases m with
  | false =>
    go_enter Try.func83, Try.ntmps83
    go_wp2_with (go_at_call 77; refine H1.out.mono ?_; rintro e w' ⟨rfl, hb1⟩)
    go_ret
    exact ⟨ret_i (by rw [HE.out]; simp), hb1⟩
  | true =>
    cases b with
    | false =>
      go_enter Try.func83, Try.ntmps83
      go_wp2_with (go_at_call 77; refine H1.out.mono ?_; rintro e w' ⟨rfl, hb1⟩)
      refine (HN _).out.mono ?_
      rintro e w' ⟨rfl, rfl⟩
      go_wp2_with (fail)
      go_ret
      exact ⟨ret_i (by rw [HE.out]; simp), hb1⟩
    | true =>
      cases c with
      | false =>
        go_enter Try.func83, Try.ntmps83
        go_wp2_with (go_at_call 77; refine H1.out.mono ?_; rintro e w' ⟨rfl, hb1⟩)
        refine (HN _).out.mono ?_
        rintro e w' ⟨rfl, rfl⟩
        go_wp2_with (fail)
        refine (HF _).out.mono ?_
        rintro e w' ⟨rfl, rfl⟩
        go_wp2_with (fail)
        go_ret
        exact ⟨ret_i (by rw [HE.out]; simp), hb1⟩
      | true =>
        go_enter Try.func83, Try.ntmps83
        go_wp2_with (go_at_call 77; refine H1.out.mono ?_; rintro e w' ⟨rfl, hb1⟩)
        refine (HN _).out.mono ?_
        rintro e w' ⟨rfl, rfl⟩
        go_wp2_with (fail)
        refine (HF _).out.mono ?_
        rintro e w' ⟨rfl, rfl⟩
        go_wp2_with (fail)
        go_ret
        exact ⟨ret_i (by rw [HE.out]; simp), hb1⟩
end Go.Proofs.Ytpjdojjdhbmbjaa
namespace Go.Proofs.Ytpjdojjdhbmbjaa
open Go.RowKit

theorem count_yes {f : List Int → Bool} {p : List (List Int)} {k : Nat} (h : k < p.length) (hf : f (p.getD k []) = true) : ((p.take (k + 1)).filter f).length = ((p.take k).filter f).length + 1 := by
  rw [List.take_succ_eq_append_getElem h, List.filter_append, List.length_append]
  simp [h] at hf
  simp [hf]
theorem count_no {f : List Int → Bool} {p : List (List Int)} {k : Nat} (h : k < p.length) (hf : f (p.getD k []) = false) : ((p.take (k + 1)).filter f).length = ((p.take k).filter f).length := by
  rw [List.take_succ_eq_append_getElem h, List.filter_append, List.length_append]
  simp [h] at hf
  simp [hf]
theorem none_more {l : List Int} {f L : Nat} (h : NoneTo l f L) (hn : (closedL l f L).any pushB = false) : NoneTo l f (L + 1) := fun L' a b => by
  rcases Nat.lt_or_ge L' L with h' | h'
  · exact h L' a h'
  · have : L' = L := by omega
    rw [this]; exact hn
theorem pow_le6 {f i : Nat} (hf : f ≤ 2) (hi : i ≤ 6) : (2 * f + 1) ^ i ≤ 15625 := by
  have h : ∀ f : Fin 3, ∀ i : Fin 7, (2 * f.val + 1) ^ i.val ≤ 15625 := by decide +kernel
  exact h ⟨f, by omega⟩ ⟨i, by omega⟩

set_option maxRecDepth 100000 in
set_option maxHeartbeats 4000000 in
theorem rshortest_c (B : Option Addr) (l : List Int) (cap : Nat) (f : Int) (w : World) (hl : l.length ≤ 1000) (hr : Rd w B (ints l)) :
    Calls Try.prog 55 #[.slice B l.length cap, .int .i64 f] w fun e w' => ∃ n b, e = .returned (.tuple #[.int .i64 n, .bool b, .int .i64 (searchE l 1 f)]) ∧ ShortIs l f n b ∧ Below w.heap.size w w' := by
  have HVS := searched_c B l cap 0 f w (by omega) hr
  rw [search_zero] at HVS
  by_cases hE : searchE l 1 f = 0
  · obtain ⟨_, _, hf1, hf2, ham⟩ := searchE_f hE
    obtain ⟨fn, rfl⟩ := Int.eq_ofNat_of_zero_le (show 0 ≤ f by omega)
    have hfn : fn ≤ 2 := by omega
    have HSH' : Hid (∀ (n : Int) (b : Bool), (∃ L : Nat, 1 ≤ L ∧ L ≤ 6 ∧ n = L ∧ b = true ∧ (closedL l fn L).any pushB = true ∧ NoneTo l fn L) ∨ (n = 0 ∧ b = false ∧ NoneTo l fn 7) → ShortIs l fn n b) :=
      fun n b h => ⟨fun _ => by simpa using h, fun h' => absurd hE h'⟩
    have HC : Hid (∀ L, L ≤ 6 → closedL l fn L = (pulsesL fn L).filter (fun x => closedAllR x l)) := fun L hL => closedL_R ham hL hfn
    generalize ShortIs l fn = SH at HSH'
    rw [hE] at HVS ⊢
    have HV := Lib.hid HVS
    clear HVS hE ham
    go_enter Try.func55, Try.ntmps55
    go_wp2_with (fail)
    refine HV.out.mono ?_
    rintro e w0 ⟨rfl, hb0⟩
    clear HV
    go_wp2_with (fail)
    go_loopw [8, 9, 10, 11] (fun lv _ _ _ wr => ∃ L : Nat, 1 ≤ L ∧ L ≤ 7 ∧ lv = .int .i64 L ∧ Hid (NoneTo l fn L) ∧ Below w.heap.size w wr) (fun lv _ _ _ _ => 7 - (intOf lv).toNat)
    case atStart => exact ⟨1, Nat.le_refl _, by omega, rfl, fun L h1 h2 => by omega, hb0⟩
    case round =>
      obtain ⟨L, hL1, hL7, rfl, hN, hb⟩ := hrel
      clear hb0
      by_cases hL : L ≤ 6
      · go_wp2_with (fail)
        refine (rall_c L fn hL hfn wr).mono ?_
        rintro e w1 ⟨A, c, hs, rfl, hown, htab, hb1⟩
        have hpow := pow_le6 hfn hL
        have hlen := pulsesL_length fn L
        have HC1 := Lib.hid (HC.out L hL)
        have HP := Lib.hid (push_count l fn L)
        have hxl : ∀ i, i < (pulsesL fn L).length → ((pulsesL fn L).getD i []).length ≤ 6 := fun i hi => by
          rw [hlen] at hi
          rw [pulsesL_get hi, pAt_len]; exact hL
        have hln : (pulsesL fn L).length ≤ 15625 := by omega
        clear hpow hlen
        have HX := Lib.hid hxl
        clear hxl
        have hbw := bl_call hb hb1
        generalize pulsesL fn L = P at hown htab HC1 HX hln
        go_wp2_with (fail)
        obtain ⟨wo, rfl⟩ : ∃ wo : World, wo = w1 := ⟨_, rfl⟩
        go_loopw [10, 11] (fun nv iv wr => ∃ (i k : Nat), i ≤ P.length ∧ iv = .int .i64 i ∧ nv = .int .i64 k ∧ k ≤ i ∧ Hid (k = ((P.take i).filter (fun x => closedAllR x l)).length) ∧ Below wo.heap.size wo wr) (fun _ iv _ => P.length - (intOf iv).toNat)
        case atStart => exact ⟨0, 0, Nat.zero_le _, rfl, rfl, Nat.le_refl _, by simp [Hid], Below.refl _ _⟩
        case round =>
          obtain ⟨i, k, hi, rfl, rfl, hki, hk, hb2⟩ := hrel
          by_cases hlt : i < P.length
          · have hro := (own_rd hown).1.later hb2
            obtain ⟨Ak, ck, hk1, hk2⟩ := htab.2 i hlt
            have hrk := (own_rd hk2).1.later hb2
            have hhl : hs.length = P.length := htab.1
            obtain ⟨b, o, rfl, hbl, hc⟩ := hro.at_ (k := i) (by rw [hhl]; exact hlt)
            have hck := hc i _ hk1
            have hx6 := HX.out i hlt
            have H1 := Lib.hid (@count_yes (fun x => closedAllR x l) P i hlt)
            have H2 := Lib.hid (@count_no (fun x => closedAllR x l) P i hlt)
            generalize P.getD i [] = x at hck hrk hx6 H1 H2
            have HQ := Lib.hid (closedIn_c Ak B x l ck cap wr (by omega) (by omega) hrk (hr.later (hbw.trans (hb2.mono hbw.size))))
            generalize closedAllR x l = d at HQ H1 H2
            clear hc hk1 hk2 hhl hro hrk
            cases d with
            | true =>
              go_wp2_with (fail)
              refine HQ.out.mono ?_
              rintro e w4 ⟨rfl, hb4⟩
              go_wp2_with (fail)
              go_roundw
              case rel => exact ⟨i + 1, k + 1, by omega, by go_num, by go_num, by omega, by show _ = _; rw [H1.out trivial, ← hk.out], hb2.trans (hb4.mono hb2.size)⟩
              case measure => simp [intOf]; omega
            | false =>
              go_wp2_with (fail)
              refine HQ.out.mono ?_
              rintro e w4 ⟨rfl, hb4⟩
              go_wp2_with (fail)
              go_roundw
              case rel => exact ⟨i + 1, k, by omega, by go_num, rfl, by omega, by show _ = _; rw [H2.out trivial, ← hk.out], hb2.trans (hb4.mono hb2.size)⟩
              case measure => simp [intOf]; omega
          · obtain rfl : i = P.length := by omega
            have hkk : k = (closedL l fn L).length := by have h := hk.out; rw [List.take_length] at h; rw [HC1.out]; exact h
            have hany : Hid ((closedL l fn L).any pushB = decide (1 < k)) := by show _ = _; rw [HP.out, hkk]
            have hbe := hbw.trans (hb2.mono hbw.size)
            clear hkk hk
            by_cases h1k : 1 < k
            · have hfin : SH L true := HSH'.out _ _ (.inl ⟨L, hL1, hL, rfl, rfl, by rw [hany.out]; simpa using h1k, hN.out⟩)
              have HF := Lib.hid hfin
              clear hfin
              have h1k' : (1 : Int) < (k : Int) := by omega
              go_wp2_with (fail)
              go_ret3
              exact ⟨_, _, rfl, HF.out, hbe⟩
            · have hN' := Lib.hid (none_more hN.out (by rw [hany.out]; simpa using h1k))
              have h1k' : ¬ (1 : Int) < (k : Int) := by omega
              go_wp2_with (fail)
              go_roundw
              case rel => exact ⟨L + 1, by omega, by omega, by go_num, hN'.out, hbe⟩
              case measure => simp [intOf]; omega
      · obtain rfl : L = 7 := by omega
        have hfin : SH 0 false := HSH'.out _ _ (.inr ⟨rfl, rfl, hN.out⟩)
        have HF := Lib.hid hfin
        clear hfin
        go_wp2_with (fail)
        go_ret3
        exact ⟨_, _, rfl, HF.out, hb⟩
  · have hE' : (searchE l 1 f != 0) = true := by simpa using hE
    have HF : Hid (ShortIs l f 0 false) := ⟨fun h => absurd h hE, fun _ => ⟨rfl, rfl⟩⟩
    clear hE
    go_enter Try.func55, Try.ntmps55
    go_wp2_with (fail)
    refine HVS.mono ?_
    rintro e w0 ⟨rfl, hb0⟩
    go_wp2_with (fail)
    go_ret3
    exact ⟨_, _, rfl, HF.out, hb0⟩
end Go.Proofs.Ytpjdojjdhbmbjaa
