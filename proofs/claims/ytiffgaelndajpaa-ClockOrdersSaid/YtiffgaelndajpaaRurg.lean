/- The specification's table by urgency. -/
import Derived.Test.YtiffgaelndajpaaEnds
namespace Go.Proofs.Ytiffgaelndajpaa
open Go.RowKit

def needs (L : List T3) : List Int := L.map fun j => j.2.2
@[simp] theorem needs_len (L : List T3) : (needs L).length = L.length := by simp [needs]
theorem needs_get (L : List T3) (k : Nat) : (needs L).getD k 0 = (L.getD k t0).2.2 := by
  rcases Nat.lt_or_ge k L.length with h | h
  · simp [needs, h]
  · simp [needs, h, t0]
theorem needs_set (L : List T3) (k : Nat) : (needs L).set k ((L.getD k t0).2.2 - 1) = needs (L.set k (decJ (L.getD k t0))) := by
  unfold needs
  rw [List.map_set]; rfl
/-- The needs, written one by one. -/
def ndTo (l : List T3) : Nat → List Int
  | 0 => List.replicate l.length 0
  | k + 1 => (ndTo l k).set k (l.getD k t0).2.2
@[simp] theorem ndTo_len (l : List T3) : ∀ k, (ndTo l k).length = l.length
  | 0 => by simp [ndTo]
  | k + 1 => by rw [ndTo, List.length_set, ndTo_len l k]
theorem ndTo_get (l : List T3) {j : Nat} (hj : j < l.length) : ∀ k, k ≤ l.length → (ndTo l k).getD j 0 = if j < k then (l.getD j t0).2.2 else 0
  | 0, _ => by simp [ndTo, hj]
  | k + 1, h => by
    rw [ndTo, List.getD_eq_getElem?_getD]
    by_cases e : k = j
    · subst e; rw [List.getElem?_set_self (by simpa using hj), if_pos (by omega)]; rfl
    · rw [List.getElem?_set_ne e, ← List.getD_eq_getElem?_getD, ndTo_get l hj k (by omega)]
      by_cases h1 : j < k
      · rw [if_pos h1, if_pos (by omega)]
      · rw [if_neg h1, if_neg (by omega)]
theorem ndTo_end (l : List T3) : ndTo l l.length = needs l := by
  apply List.ext_getElem
  · simp
  · intro j h1 h2
    have hj : j < l.length := by simpa using h1
    have e := ndTo_get l hj l.length (Nat.le_refl _)
    rw [if_pos hj, ← needs_get] at e
    simpa [hj] using e
theorem sumTo_need (l : List T3) : sumTo (fun k => (l.getD k t0).2.2) l.length = sumN l := rfl

/-- The best one from the end on, of the last j jobs. -/
def bestTo (L : List T3) (t : Nat) : Nat → Int
  | 0 => -1
  | j + 1 => if availB L t (L.length - 1 - j) then (if bestTo L t j < 0 then ((L.length - 1 - j : Nat) : Int) else if (L.getD (L.length - 1 - j) t0).2.1 ≤ (L.getD (bestTo L t j).toNat t0).2.1 then ((L.length - 1 - j : Nat) : Int) else bestTo L t j) else bestTo L t j
theorem bestTo_is (L : List T3) (t : Nat) : ∀ j, j ≤ L.length → (bestTo L t j = -1 ∧ ∀ i, L.length - j ≤ i → i < L.length → availB L t i = false) ∨ ∃ k : Nat, bestTo L t j = (k : Int) ∧ L.length - j ≤ k ∧ k < L.length ∧ availB L t k = true ∧ ∀ i, L.length - j ≤ i → i < L.length → availB L t i = true → (L.getD k t0).2.1 ≤ (L.getD i t0).2.1 ∧ ((L.getD i t0).2.1 = (L.getD k t0).2.1 → k ≤ i)
  | 0, _ => .inl ⟨rfl, fun i h1 h2 => by omega⟩
  | j + 1, hj => by
    have ih := bestTo_is L t j (by omega)
    have hk : ∀ i, L.length - (j + 1) ≤ i → i < L.length → i = L.length - 1 - j ∨ L.length - j ≤ i := fun i h1 h2 => by omega
    rw [bestTo]
    by_cases ha : availB L t (L.length - 1 - j) = true
    · rw [if_pos ha]
      rcases ih with ⟨h1, h2⟩ | ⟨k, h1, h2, h3, h4, h5⟩
      · rw [h1, if_pos (by omega)]
        refine .inr ⟨_, rfl, by omega, by omega, ha, fun i hi1 hi2 hia => ?_⟩
        rcases hk i hi1 hi2 with rfl | x
        · exact ⟨Int.le_refl _, fun _ => Nat.le_refl _⟩
        · rw [h2 i x hi2] at hia; cases hia
      · rw [h1, if_neg (by omega), Int.toNat_natCast]
        by_cases hle : (L.getD (L.length - 1 - j) t0).2.1 ≤ (L.getD k t0).2.1
        · rw [if_pos hle]
          refine .inr ⟨_, rfl, by omega, by omega, ha, fun i hi1 hi2 hia => ?_⟩
          rcases hk i hi1 hi2 with rfl | x
          · exact ⟨Int.le_refl _, fun _ => Nat.le_refl _⟩
          · have := (h5 i x hi2 hia).1
            exact ⟨by omega, fun _ => by omega⟩
        · rw [if_neg hle]
          refine .inr ⟨k, rfl, by omega, h3, h4, fun i hi1 hi2 hia => ?_⟩
          rcases hk i hi1 hi2 with rfl | x
          · exact ⟨by omega, fun e => by omega⟩
          · exact h5 i x hi2 hia
    · rw [if_neg ha]
      rcases ih with ⟨h1, h2⟩ | ⟨k, h1, h2, h3, h4, h5⟩
      · refine .inl ⟨h1, fun i hi1 hi2 => ?_⟩
        rcases hk i hi1 hi2 with rfl | x
        · simpa using ha
        · exact h2 i x hi2
      · refine .inr ⟨k, h1, by omega, h3, h4, fun i hi1 hi2 hia => ?_⟩
        rcases hk i hi1 hi2 with rfl | x
        · exact absurd hia ha
        · exact h5 i x hi2 hia
theorem bestTo_end (L : List T3) (t : Nat) : bestTo L t L.length = nextF L t := by
  refine IsNext.uniq (L := L) (t := t) (n := L.length) ?_ (nextTo_is L t L.length)
  rcases bestTo_is L t L.length (Nat.le_refl _) with ⟨h1, h2⟩ | ⟨k, h1, h2, h3, h4, h5⟩
  · exact .inl ⟨h1, fun i hi => h2 i (by omega) hi⟩
  · exact .inr ⟨k, h1, h3, h4, fun i hi => h5 i (by omega) hi⟩
theorem bestTo_skip {L : List T3} {t j : Nat} (h : availB L t (L.length - 1 - j) = false) : bestTo L t (j + 1) = bestTo L t j := by rw [bestTo, h]; simp
theorem bestTo_first {L : List T3} {t j : Nat} (h : availB L t (L.length - 1 - j) = true) (hf : bestTo L t j = -1) : bestTo L t (j + 1) = ((L.length - 1 - j : Nat) : Int) := by rw [bestTo, h, hf]; rfl
theorem bestTo_other {L : List T3} {t j i : Nat} (h : availB L t (L.length - 1 - j) = true) (hf : bestTo L t j = (i : Int)) : bestTo L t (j + 1) = if (L.getD (L.length - 1 - j) t0).2.1 ≤ (L.getD i t0).2.1 then ((L.length - 1 - j : Nat) : Int) else (i : Int) := by
  rw [bestTo, h, hf, if_pos rfl, if_neg (by omega), Int.toNat_natCast]
theorem bestTo_range (L : List T3) (t j : Nat) (h : j ≤ L.length) : bestTo L t j = -1 ∨ ∃ i : Nat, bestTo L t j = (i : Int) ∧ i < L.length := by
  rcases bestTo_is L t j h with ⟨h, _⟩ | ⟨i, h, _, hi, _⟩
  · exact .inl h
  · exact .inr ⟨i, h, hi⟩

set_option maxRecDepth 100000 in
set_option maxHeartbeats 8000000 in
theorem rUrgent_ok (A : Option Addr) (l : List T3) (c : Nat) (w : World) (hl : Ok l) (hr : Rd w A (cellsT l)) :
    Calls Try.prog 26 #[.slice A l.length c] w (OutR (urgL l) 0 w) := by
  have h8 := hl.len
  have hN := lenU_le hl
  have HV := Lib.hid (rvalidate_c A l c w (by omega) hr)
  rw [validE_ok.2 hl] at HV
  have hmk := fun w => (make_ints l.length (by omega) w).choose_spec
  have HN : Hid ((urgL l).length = lenU l) := unitsTo_len _ _
  have HU : Hid (urgL l = unitsTo l (lenU l)) := rfl
  have HSP := Lib.hid (lenG_spec (picks_next l) hl)
  have HLEN := Lib.hid (leftAt_len l)
  have HJ := Lib.hid (leftG_nonneg (picks_next l) hl.jobs)
  have HZ : Hid (∀ t, t < lenU l → 0 < sumN (leftAt l t)) := HSP.out.2.2
  have HE : Hid (sumN (leftAt l (lenU l)) = 0) := HSP.out.2.1
  have HSL := Lib.hid (sumN_le hl.jobs h8)
  have HNG : Hid (∀ k, k < l.length → ∀ c, (leftAt l c).getD k t0 = ((l.getD k t0).1, (l.getD k t0).2.1, (l.getD k t0).2.2 - cntP (fun t => pickAt l t == (k : Int)) c)) := fun k h c => leftAt_get l h c
  generalize lenU l = N at *
  go_enter Try.func26, Try.ntmps26
  go_wp2_with (fail)
  refine HV.out.mono ?_
  rintro e w1 ⟨rfl, hb1⟩
  obtain ⟨cs, hm1, hcs⟩ := make_ints l.length (by omega) w1
  have hR1 : Row (w1.alloc (.cells cs 3)) w1.heap.size (ndTo l 0) := by rw [hcs]; exact Bx.new w1 _ _
  have hb2 : Below w.heap.size w (w1.alloc (.cells cs 3)) := bl_alloc hb1 _
  clear hcs HV hmk
  go_wp2_with (fail)
  generalize hw2 : w1.alloc (.cells cs 3) = w2 at *
  clear hw2 hm1
  have hg0 := hb1.size
  generalize w1.heap.size = g0 at *
  go_loopg [5, 7] l.length (fun gk sv iv wr => ∃ k : Nat, Hid (k + gk = l.length) ∧ iv = .int .i64 (k : Int) ∧ sv = .int .i64 (sumTo (fun k => (l.getD k t0).2.2) k) ∧ Row wr g0 (ndTo l k) ∧ Below w.heap.size w wr)
  case atStart => exact ⟨0, by simp [Hid], rfl, rfl, hR1, hb2⟩
  case round =>
    obtain ⟨k, HK, rfl, rfl, hR, hb⟩ := hrel
    rcases gk with _ | gi
    · obtain rfl : k = l.length := HK.out
      rw [ndTo_end] at hR
      go_wp2_with (fail)
      go_loopg [5, 8, 9] N (fun gk sv ov' tv wr => ∃ (t : Nat) (ov : Value), ov = ov' ∧ Hid (t + gk = N) ∧ tv = .int .i64 (t : Int) ∧ sv = .int .i64 (sumN (leftAt l t)) ∧ Row wr g0 (needs (leftAt l t)) ∧ wr.ownsRow (g0 + 1) 3 1 ov (unitsTo l t).length (ints (unitsTo l t)) ∧ Below w.heap.size w wr)
      case atStart => exact ⟨0, _, rfl, by simp [Hid], rfl, rfl, hR, World.ownsRow_nil _ _ _ _, hb⟩
      case round =>
        clear hR hb
        obtain ⟨t, ov, rfl, HT, rfl, rfl, hR, hown, hb⟩ := hrel
        rcases gk with _ | gi
        · obtain rfl : t = N := HT.out
          obtain ⟨A2, c2, rfl⟩ := own_form hown
          rw [HE.out]
          go_wp2_with (fail)
          go_ret2
          exact ⟨A2, c2, by rw [HU.out]; rfl, by rw [HU.out]; exact (own_rd hown).1, hb⟩
        · have htN : t < N := by have := HT.out; omega
          have hs0 := HZ.out t htN
          have htb : (t : Int) ≤ 540 := by omega
          have HLt := Lib.hid (HLEN.out t)
          have HB1 : Hid (∀ j, j ≤ l.length → bestTo (leftAt l t) t j = -1 ∨ ∃ i : Nat, bestTo (leftAt l t) t j = (i : Int) ∧ i < l.length) := fun j h => by
            have := bestTo_range (leftAt l t) t j (by rw [HLt.out]; exact h)
            rwa [HLt.out] at this
          go_wp2_with (fail)
          go_loopg [10, 11] l.length (fun gj bv kv wq => ∃ (j : Nat) (f : Int), Hid (j + gj = l.length) ∧ kv = .int .i64 ((l.length : Int) - 1 - j) ∧ bv = .int .i64 f ∧ Hid (bestTo (leftAt l t) t j = f) ∧ Row wq g0 (needs (leftAt l t)) ∧ wq.ownsRow (g0 + 1) 3 1 ov (unitsTo l t).length (ints (unitsTo l t)) ∧ Below w.heap.size w wq)
          case atStart => exact ⟨0, -1, by simp [Hid], by simp, rfl, rfl, hR, hown, hb⟩
          case round =>
            clear hR hown hb
            obtain ⟨j, f, HJJ, rfl, rfl, HF, hR, hown, hb⟩ := hrel
            rcases gk with _ | gj
            · obtain rfl : j = l.length := HJJ.out
              have hfe : f = pickAt l t := by
                rw [pickAt_eq, ← bestTo_end, HLt.out]; exact HF.out.symm
              have hke : (l.length : Int) - 1 - (l.length : Int) = -1 := by omega
              rw [hke]
              have hpr := pickAt_range l t
              have HS2 : Hid (leftAt l (t + 1) = stepL (leftAt l t) f) := by show _ = _; rw [leftAt_succ, hfe]
              have HUS : Hid (unitsTo l (t + 1) = unitsTo l t ++ [f]) := by show _ = _; rw [unitsTo_succ, hfe]
              rw [← hfe] at hpr
              have HUL : Hid ((unitsTo l t).length = t) := unitsTo_len l t
              have HLE : Hid ((unitsTo l (t + 1)).length = (unitsTo l t).length + 1) := by show _ = _; rw [HUS.out]; simp
              obtain ⟨hf1, hf2⟩ := hpr
              have hgl := hR.lt
              clear hfe hke HF HB1
              by_cases hfm : f = -1
              · subst hfm
                have HS3 : Hid (leftAt l (t + 1) = leftAt l t) := by show _ = _; rw [HS2.out, stepL_none]
                obtain ⟨A4, c4, w4, E4, ho4, hb4, _⟩ := append_int (g0 + 1) wr ov (unitsTo l t) (-1) hown (by rw [HUL.out]; omega) (by omega)
                have F4 := Lib.hid E4
                have hR4 : Row w4 g0 (needs (leftAt l t)) := hR.mod (Mod.of_below hb4) (by omega)
                rw [← HUS.out] at ho4
                have hbw4 := hb.trans (hb4.mono (by omega))
                clear E4 HS2
                go_wp2_with (at_builtin; refine wpList_append_eq rfl _ _ 23 rfl _ _ _ w4 rfl rfl F4.out ?_)
                go_roundg gi
                case rel => exact ⟨t + 1, _, rfl, by have := HT.out; show _ = _; omega, by go_num, by rw [HS3.out], by rw [HS3.out]; exact hR4, by rw [HLE.out, HUL.out] at ho4 ⊢; exact ho4, hbw4⟩
                case measure => omega
              · obtain ⟨i, rfl⟩ := Int.eq_ofNat_of_zero_le (show 0 ≤ f by omega)
                have hil : i < l.length := by omega
                have HS3 : Hid (leftAt l (t + 1) = (leftAt l t).set i (decJ ((leftAt l t).getD i t0))) := by
                  show _ = _
                  rw [HS2.out, stepL, if_neg (by omega), Int.toNat_natCast]
                have HSN : Hid (sumN (leftAt l (t + 1)) = sumN (leftAt l t) - 1) := by
                  show _ = _
                  rw [HS2.out, sumN_step (by rw [HLt.out]; exact hil)]
                have y0 := hR.get (k := i) (by rw [needs_len, HLt.out]; exact hil)
                have y1 := hR.free i
                rw [needs_get] at y0
                have hj := ((HJ.out t).get (k := i) (by rw [show leftG nextF l t = leftAt l t from rfl, HLt.out]; exact hil))
                rw [show leftG nextF l t = leftAt l t from rfl] at hj
                have hn0 := hj.n0
                have hn1 := hj.n1
                have hset := hR.set i (((leftAt l t).getD i t0).2.2 - 1)
                rw [needs_set, ← HS3.out] at hset
                have hssz : sumN (leftAt l t) ≤ 100000 := by
                  have := sumN_le (HJ.out t) (by rw [show leftG nextF l t = leftAt l t from rfl, HLt.out]; exact h8)
                  rw [show leftG nextF l t = leftAt l t from rfl] at this
                  omega
                have hbs := bl_set hb (g := g0) (i := i) hg0 (.int .i64 (((leftAt l t).getD i t0).2.2 - 1))
                have howns : World.ownsRow (wr.setCell ⟨g0, i, none⟩ (.int .i64 (((leftAt l t).getD i t0).2.2 - 1))) (g0 + 1) 3 1 ov (unitsTo l t).length (ints (unitsTo l t)) :=
                  own_mod hown ((Mod.refl (fun b => b = g0) wr).setCell (.inr rfl) _) (fun b hb h => by have := (hown.lt b hb).1; omega)
                have hgl2 := hset.lt
                generalize ((leftAt l t).getD i t0).2.2 = nd at *
                obtain ⟨A4, c4, w4, E4, ho4, hb4, _⟩ := append_int (g0 + 1) _ ov (unitsTo l t) i howns (by rw [HUL.out]; omega) (by omega)
                rw [World.size_setCell] at E4
                have F4 := Lib.hid E4
                have hR4 : Row w4 g0 (needs (leftAt l (t + 1))) := hset.mod (Mod.of_below hb4) (by omega)
                rw [← HUS.out] at ho4
                have hbw4 := hbs.trans (hb4.mono (by omega))
                clear E4 HS2 hj hset hfm hR hown
                go_wp2_with (at_builtin; refine wpList_append_eq rfl _ _ 23 rfl _ _ _ w4 rfl rfl F4.out ?_)
                go_roundg gi
                case rel => exact ⟨t + 1, _, rfl, by have := HT.out; show _ = _; omega, by go_num, by rw [HSN.out], hR4, by rw [HLE.out, HUL.out] at ho4 ⊢; exact ho4, hbw4⟩
                case measure => omega
            · obtain ⟨kk, hkk⟩ : ∃ kk : Nat, kk = l.length - 1 - j := ⟨_, rfl⟩
              have hjl : j < l.length := by have := HJJ.out; omega
              have hkl : kk < l.length := by omega
              have hkl' : (kk : Int) < (l.length : Int) := by omega
              have hke : (l.length : Int) - 1 - j = (kk : Int) := by omega
              rw [hke]
              have HKE := Lib.hid hke
              have y0 := hR.get (k := kk) (by rw [needs_len, HLt.out]; exact hkl)
              rw [needs_get] at y0
              have HS := Lib.hid (@bestTo_skip (leftAt l t) t j)
              have H1 := Lib.hid (@bestTo_first (leftAt l t) t j)
              have H2 := Lib.hid (fun i => @bestTo_other (leftAt l t) t j i)
              rw [HLt.out, ← hkk] at HS H1 H2
              have HA : Hid (availB (leftAt l t) t kk = (decide (0 < ((leftAt l t).getD kk t0).2.2) && decide ((l.getD kk t0).1 ≤ (t : Int)))) := by
                show _ = _
                rw [availB, HNG.out kk hkl t]
              have HBK : Hid (((leftAt l t).getD kk t0).2.1 = (l.getD kk t0).2.1) := by show _ = _; rw [HNG.out kk hkl t]
              rw [HBK.out] at H2
              obtain ⟨b, o, rfl, hbl, c0, c1, c2⟩ := (hr.later hb).tri hkl
              generalize ((leftAt l t).getD kk t0).2.2 = nd at *
              clear hke hkk HBK
              have HNX : Hid (∀ f' wq', bestTo (leftAt l t) t (j + 1) = f' → Below wr.heap.size wr wq' → ∃ (j : Nat) (f : Int), Hid (j + gj = l.length) ∧ Value.int .i64 ((kk : Int) - 1) = .int .i64 ((l.length : Int) - 1 - j) ∧ Value.int .i64 f' = .int .i64 f ∧ Hid (bestTo (leftAt l t) t j = f) ∧ Row wq' g0 (needs (leftAt l t)) ∧ wq'.ownsRow (g0 + 1) 3 1 ov (unitsTo l t).length (ints (unitsTo l t)) ∧ Below w.heap.size w wq') := fun f' wq' h1 h2 => by
                refine ⟨j + 1, f', by have := HJJ.out; show _ = _; omega, by have := HKE.out; congr 1; omega, rfl, h1, hR.call h2, own_call hown h2, bl_call hb h2⟩
              clear hR hown
              by_cases hn : 0 < nd
              · by_cases hf : (l.getD kk t0).1 ≤ (t : Int)
                · have HAT : Hid (availB (leftAt l t) t kk = true) := by show _ = _; rw [HA.out, decide_eq_true hn, decide_eq_true hf]; rfl
                  have hn' : decide (0 < nd) = true := decide_eq_true hn
                  have hf' : decide ((l.getD kk t0).1 ≤ (t : Int)) = true := decide_eq_true hf
                  have HBR := HB1.out j (by omega)
                  rw [HF.out] at HBR
                  rcases HBR with rfl | ⟨i, rfl, hil⟩
                  · have HX := Lib.hid (HNX.out kk)
                    have HS2 := Lib.hid (H1.out HAT.out HF.out)
                    clear HNX HS H1 H2 HA hn hf
                    generalize l.getD kk t0 = x at *
                    obtain ⟨x0, x1, x2⟩ := x
                    simp only [] at c0 c1 hf'
                    go_wp2_with (fail)
                    go_quiet (fail)
                    go_wp2_with (fail)
                    go_roundg gj
                    case rel => exact HX.out _ HS2.out (below_drewN (Below.refl _ _) _)
                    case measure => omega
                  · have hil' : (i : Int) < (l.length : Int) := by omega
                    have hi0 : decide ((i : Int) < 0) = false := decide_eq_false (by omega)
                    have HS2 := H2.out i HAT.out HF.out
                    have HBI : ((leftAt l t).getD i t0).2.1 = (l.getD i t0).2.1 := by rw [HNG.out i hil t]
                    rw [HBI] at HS2
                    obtain ⟨b', o', he, _, d0, d1, d2⟩ := (hr.later hb).tri hil
                    injection he with he
                    injection he with e1 e2
                    subst e1 e2
                    have HXk := Lib.hid (HNX.out kk)
                    have HXi := Lib.hid (HNX.out i)
                    have HS3 := Lib.hid HS2
                    clear HNX HS H1 H2 HA hn hf HBI HS2
                    generalize l.getD kk t0 = x at *
                    obtain ⟨x0, x1, x2⟩ := x
                    generalize l.getD i t0 = y at *
                    obtain ⟨z0, z1, z2⟩ := y
                    simp only [] at c0 c1 hf' d0 d1 HS3
                    by_cases hle : x1 ≤ z1
                    · have HS4 := HS3.out
                      rw [if_pos hle] at HS4
                      have HS5 := Lib.hid HS4
                      clear HS3 HS4
                      go_wp2_with (fail)
                      go_quiet (fail)
                      go_wp2_with (fail)
                      go_roundg gj
                      case rel => exact HXk.out _ HS5.out (below_drewN (Below.refl _ _) _)
                      case measure => omega
                    · have HS4 := HS3.out
                      rw [if_neg hle] at HS4
                      have HS5 := Lib.hid HS4
                      clear HS3 HS4
                      go_wp2_with (fail)
                      go_quiet (fail)
                      go_wp2_with (fail)
                      go_roundg gj
                      case rel => exact HXi.out _ HS5.out (below_drewN (Below.refl _ _) _)
                      case measure => omega
                · have HX := Lib.hid (HNX.out f)
                  have HS2 := Lib.hid ((HS.out (by rw [HA.out, decide_eq_false hf, Bool.and_false])).trans HF.out)
                  clear HNX HS H1 H2 HA
                  generalize l.getD kk t0 = x at *
                  obtain ⟨x0, x1, x2⟩ := x
                  simp only [] at c0 c1 hf
                  have hf' : decide (x0 ≤ (t : Int)) = false := decide_eq_false hf
                  have hn' : decide (0 < nd) = true := decide_eq_true hn
                  clear hf hn
                  go_wp2_with (fail)
                  go_quiet (fail)
                  go_wp2_with (fail)
                  go_roundg gj
                  case rel => exact HX.out _ HS2.out (below_drewN (Below.refl _ _) _)
                  case measure => omega
              · have HX := Lib.hid (HNX.out f)
                have HS2 := Lib.hid ((HS.out (by rw [HA.out, decide_eq_false hn]; rfl)).trans HF.out)
                clear HNX HS H1 H2 HA
                have hn' : decide (0 < nd) = false := decide_eq_false hn
                clear hn
                go_wp2_with (fail)
                go_quiet (fail)
                go_wp2_with (fail)
                go_roundg gj
                case rel => exact HX.out _ HS2.out (below_drewN (Below.refl _ _) _)
                case measure => omega
    · have hkl : k < l.length := by have := HK.out; omega
      have hkl' : (k : Int) < (l.length : Int) := by omega
      obtain ⟨b, o, rfl, hbl, c0, c1, c2⟩ := (hr.later hb).tri hkl
      have y1 := hR.free k
      obtain ⟨v, y0⟩ : ∃ v, wr.cell? ⟨g0, k, none⟩ = some v := ⟨_, hR.get (by simpa using hkl)⟩
      have hset := hR.set k (l.getD k t0).2.2
      have hbs := bl_set hb (g := g0) (i := k) hg0 (.int .i64 (l.getD k t0).2.2)
      have HD : Hid ((wr.setCell ⟨g0, k, none⟩ (.int .i64 (l.getD k t0).2.2)).cell? ⟨b, o + k * 3 + 2, none⟩ = some (.int .i64 (l.getD k t0).2.2)) := by
        obtain ⟨b', o', he, h⟩ := hr.tris hkl
        injection he with he
        injection he with e1 e2
        subst e1 e2
        exact (h _ hbs).2.2
      have hj := hl.jobs.get hkl
      have HS : Hid (sumTo (fun k => (l.getD k t0).2.2) (k + 1) = sumTo (fun k => (l.getD k t0).2.2) k + (l.getD k t0).2.2) := rfl
      have HS1 := sumTo_nonneg (f := fun k => (l.getD k t0).2.2) (n := k) (fun j h => (hl.jobs.get (show j < l.length by omega)).n0)
      have HS2 : sumTo (fun k => (l.getD k t0).2.2) k ≤ 100000 := by
        have h1 := sumTo_le (f := fun k => (l.getD k t0).2.2) (g := fun _ => 60) (n := k) (fun j h => (hl.jobs.get (show j < l.length by omega)).n1)
        have h2 : ∀ n : Nat, sumTo (fun _ => 60) n = 60 * n := by
          intro n
          induction n with
          | zero => rfl
          | succ n ih => simp only [sumTo, ih]; omega
        rw [h2] at h1
        omega
      have hn0 := hj.n0
      have hn1 := hj.n1
      have HRS : Hid (ndTo l (k + 1) = (ndTo l k).set k (l.getD k t0).2.2) := rfl
      rw [← HRS.out] at hset
      have hd := HD.out
      generalize sumTo (fun k => (l.getD k t0).2.2) k = S at *
      generalize l.getD k t0 = x at *
      obtain ⟨x0, x1, x2⟩ := x
      simp only [] at c0 c1 c2 hset hbs hd hn0 hn1 HS
      clear HRS HD hj
      go_wp2_with (fail)
      go_roundg gi
      case rel => exact ⟨k + 1, by have := HK.out; show _ = _; omega, by go_num, by rw [HS.out], hset, hbs⟩
      case measure => omega
end Go.Proofs.Ytiffgaelndajpaa
