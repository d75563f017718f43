/- How near a field comes to a wish: the specification's contract. -/
import Derived.Test.YtnofeibgnlkkcaaRway
namespace Go.Proofs.Ytnofeibgnlkkcaa
open Go.RowKit

def nrTo (g : List (List Int)) (l : List Int) (k : Nat) : Int × List Int := (nearF g l (voltsTo (wires g) k)).getD (-1, [])
theorem nr_zero (g : List (List Int)) (l : List Int) : nrTo g l 0 = (-1, []) := rfl
theorem nr_yes {g : List (List Int)} {l : List Int} {k : Nat} (h : (nrTo g l k).1 < 0 ∨ farV g l (vAt (wires g) k) < (nrTo g l k).1) : nrTo g l (k + 1) = (farV g l (vAt (wires g) k), vAt (wires g) k) := by
  unfold nrTo at h ⊢
  rw [voltsTo_succ, nearF_snoc]
  cases hs : nearF g l (voltsTo (wires g) k) with
  | none => rfl
  | some p =>
    obtain ⟨n, u⟩ := p
    rw [hs] at h
    have hn : 0 ≤ n := by rw [(nearF_some _ n u hs).2.1]; exact farV_pos g l u
    rcases h with h | h
    · exact absurd h (by simpa using hn)
    · simp only [nearS, Option.getD_some] at h ⊢
      rw [if_pos h]; rfl
theorem nr_no {g : List (List Int)} {l : List Int} {k : Nat} (h1 : ¬ (nrTo g l k).1 < 0) (h2 : ¬ farV g l (vAt (wires g) k) < (nrTo g l k).1) : nrTo g l (k + 1) = nrTo g l k := by
  unfold nrTo at h1 h2 ⊢
  rw [voltsTo_succ, nearF_snoc]
  cases hs : nearF g l (voltsTo (wires g) k) with
  | none => rw [hs] at h1; exact absurd (by decide) h1
  | some p =>
    obtain ⟨n, u⟩ := p
    rw [hs] at h2
    simp only [nearS, Option.getD_some] at h2 ⊢
    rw [if_neg h2]; rfl
theorem nr_all {g : List (List Int)} {l : List Int} (h : wayB g l = true) : nrTo g l (7 ^ wires g) = nearG g l := by
  unfold nrTo nearG
  rw [if_pos h]
  obtain ⟨n, u, hs⟩ := near_some g l
  rw [show voltsTo (wires g) (7 ^ wires g) = voltsL (wires g) from rfl, hs]; rfl
set_option maxRecDepth 100000 in
set_option maxHeartbeats 2000000 in
theorem rNearest_c (A B : Option Addr) (R : Rows) (g : List (List Int)) (l : List Int) (cap cap' : Nat) (w : World) (hl : Brief g) (hl' : l.length ≤ 1000) (hr : RT w A R g) (hs : Rd w B (ints l)) :
    Calls Try.prog 36 #[.slice A g.length cap, .slice B l.length cap'] w fun e w' => ∃ A' c', e = .returned (.tuple #[.int .i64 (nearG g l).1, .slice A' (nearG g l).2.length c', .int .i64 (errB (wayB g l))]) ∧ Rd w' A' (ints (nearG g l).2) ∧ Below w.heap.size w w' := by
  have HV := Lib.hid (rWished_c A B R g l cap cap' w hl hl' hr hs)
  change Hid (Calls _ _ _ _ fun e w' => e = .returned (.int .i64 (errB (wayB g l))) ∧ _) at HV
  by_cases hW : wayB g l = true
  · obtain ⟨hg, hlw⟩ := wayB_iff hW
    have HEV := fun w1 (hb : Below w.heap.size w w1) => Lib.hid (every_c A R g cap w1 hg (hr.later hb))
    have HF := fun (v : List Int) (C : Option Addr) (c : Nat) (w1 : World) (hv : OkV v (wires g) 3) (hb : Below w.heap.size w w1) (hc : Rd w1 C (ints v)) => Lib.hid (rfield_c A C R g v cap c w1 hg hv (hr.later hb) hc)
    have HJ := fun (v : List Int) (D : Option Addr) (d : Nat) (w1 : World) (hv : OkV v (wires g) 3) (hd : Rd w1 D (ints (fieldL g v))) (hb : Below w.heap.size w w1) => Lib.hid (rjump_c D B (fieldL g v) l d cap' w1 (by rw [fieldL_len, hlw.len]) (by rw [fieldL_len]; have := hg.pts; omega) (fun k => ⟨small_get (field_bound hg hv) (by decide) k, small_get hlw (by decide) k⟩) hd (hs.later hb))
    have HLE := Lib.hid (fieldL_len g)
    have HVL := Lib.hid (voltsL_len (wires g))
    have HVG : Hid (∀ k, k < 7 ^ wires g → (voltsL (wires g)).getD k [] = vAt (wires g) k) := fun k hk => voltsTo_get hk
    have hpow := pow_le hg.wrs.2
    have HOK := Lib.hid (vAt_ok (wires g))
    have HY := Lib.hid (fun k => @nr_yes g l k)
    have HN := Lib.hid (fun k => @nr_no g l k)
    have HA := Lib.hid (nr_all hW)
    have H0 := Lib.hid (nr_zero g l)
    have HE : Hid (errB (wayB g l) = 0) := by show _ = _; rw [hW]; rfl
    rw [HE.out] at HV
    rw [HE.out]
    generalize nearG g l = res at *
    generalize voltsL (wires g) = V at *
    generalize 7 ^ wires g = N at *
    clear hg hr hs hlw hW
    go_enter Try.func36, Try.ntmps36
    go_wp2_with (fail)
    refine HV.out.mono ?_
    rintro e w0 ⟨rfl, hb0⟩
    go_wp2_with (fail)
    refine (HEV _ hb0).out.mono ?_
    rintro e w1 ⟨A1, c1, hs1, rfl, hown1, htab1, hb1⟩
    rw [HVL.out] at hown1 ⊢
    clear HEV HV
    have hb01 := bl_call hb0 hb1
    have hro := (own_rd hown1).1
    have hlen : hs1.length = N := by have := hown1.1; omega
    go_wp2_with (fail)
    go_loopg [8, 9, 11] N (fun gk bv lv iv wr => ∃ (k : Nat) (A' : Option Addr) (c' : Nat), Hid (k + gk = N) ∧ iv = .int .i64 (k : Int) ∧ lv = .int .i64 (nrTo g l k).1 ∧ bv = .slice A' (nrTo g l k).2.length c' ∧ Rd wr A' (ints (nrTo g l k).2) ∧ Below w1.heap.size w1 wr)
    case atStart => exact ⟨0, none, 0, by simp [Hid], rfl, by rw [H0.out], by rw [H0.out]; rfl, by rw [H0.out]; exact .inl rfl, Below.refl _ _⟩
    case round =>
      obtain ⟨k, A', c', HK, rfl, rfl, rfl, hrd, hb⟩ := hrel
      rcases gk with _ | gi
      · obtain rfl : k = N := HK.out
        rw [HA.out] at hrd ⊢
        have hb2 := bl_call hb01 hb
        go_wp2_with (fail)
        go_ret3
        exact ⟨A', c', rfl, hrd, hb2⟩
      · have hkN : k < N := by have := HK.out; omega
        have hkN' : (k : Int) < (N : Int) := by omega
        obtain ⟨Ak, ck, hk1, hk2⟩ := htab1.2 k (by rw [HVL.out]; exact hkN)
        rw [HVG.out k hkN] at hk1 hk2
        have hokv := HOK.out k
        have HYk := Lib.hid (HY.out k)
        have HNk := Lib.hid (HN.out k)
        have HFv := HF (vAt (wires g) k)
        have HJv := HJ (vAt (wires g) k)
        have HLv := Lib.hid (HLE.out (vAt (wires g) k))
        have hfar : farV g l (vAt (wires g) k) = jumpL (fieldL g (vAt (wires g) k)) l := rfl
        rw [hfar] at HYk HNk
        clear hfar
        generalize vAt (wires g) k = v at *
        generalize jumpL (fieldL g v) l = f at *
        generalize fieldL g v = F at *
        generalize nrTo g l k = P at *
        obtain ⟨m, u⟩ := P
        simp only [] at HYk HNk hrd
        have hrk := (own_rd hk2).1
        obtain ⟨b, o, rfl, hbl, hc⟩ := hro.at_ (k := k) (by rw [hlen]; exact hkN)
        have hck0 := hc k _ hk1
        have hck := (hb.cell (p := ⟨b, o + k, none⟩) hbl).trans hck0
        have hbw := bl_call hb01 hb
        have HF1 := HFv Ak ck wr hokv hbw (hrk.later hb)
        clear hk1 hc HFv
        go_wp2_with (fail)
        refine HF1.out.mono ?_
        rintro e w2 ⟨A2, c2, rfl, hown2, hb2⟩
        have hbw2 := bl_call hbw hb2
        have hrd2 := (own_rd hown2).1
        have HJ1 := HJv A2 c2 w2 hokv hrd2 hbw2
        rw [HLv.out] at HJ1
        clear HF1 HJv hown2
        go_wp2_with (fail)
        refine HJ1.out.mono ?_
        rintro e w3 ⟨rfl, hb3⟩
        have hb13 : Below w1.heap.size w1 w3 := bl_call (bl_call hb hb2) hb3
        have hrd3 := (hrd.later hb2).later hb3
        have hck3 := (hb13.cell (p := ⟨b, o + k, none⟩) hbl).trans hck0
        have hrk3 := hrk.later hb13
        clear HJ1 hrd2 hck hck0 hrd
        by_cases h1 : m < 0
        · have HS := Lib.hid (HYk.out (.inl h1))
          clear HYk HNk
          go_wp2_with (fail)
          go_quiet (fail)
          all_goals go_wp2_with (fail)
          all_goals
            go_roundg gi
            case rel => exact ⟨k + 1, Ak, ck, by have := HK.out; show _ = _; omega, by go_num, by rw [HS.out], by rw [HS.out], by rw [HS.out]; exact hrk3.later (below_drewN (Below.refl _ _) _), below_drewN hb13 _⟩
            case measure => omega
        · by_cases h2 : f < m
          · have HS := Lib.hid (HYk.out (.inr h2))
            clear HYk HNk
            go_wp2_with (fail)
            go_quiet (fail)
            all_goals go_wp2_with (fail)
            all_goals
              go_roundg gi
              case rel => exact ⟨k + 1, Ak, ck, by have := HK.out; show _ = _; omega, by go_num, by rw [HS.out], by rw [HS.out], by rw [HS.out]; exact hrk3.later (below_drewN (Below.refl _ _) _), below_drewN hb13 _⟩
              case measure => omega
          · have HS := Lib.hid (HNk.out (by first | exact h1 | omega | simpa using h1) (by first | exact h2 | omega | simpa using h2))
            clear HYk HNk
            go_wp2_with (fail)
            go_roundg gi
            case rel => exact ⟨k + 1, A', c', by have := HK.out; show _ = _; omega, by go_num, by rw [HS.out], by rw [HS.out], by rw [HS.out]; exact hrd3, hb13⟩
            case measure => omega
  · have hW' : wayB g l = false := by simpa using hW
    have hz : nearG g l = (0, []) := by unfold nearG; rw [if_neg hW]
    rw [hW', hz]
    rw [hW'] at HV
    go_enter Try.func36, Try.ntmps36
    go_wp2_with (fail)
    refine HV.out.mono ?_
    rintro e w1 ⟨rfl, hb1⟩
    rw [errB_f]
    go_wp2_with (fail)
    go_ret3
    exact ⟨none, 0, rfl, .inl rfl, hb1⟩
end Go.Proofs.Ytnofeibgnlkkcaa
