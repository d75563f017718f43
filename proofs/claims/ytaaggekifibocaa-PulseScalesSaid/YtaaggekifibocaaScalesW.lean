/- The walk of the statement on pulses with all forces multiplied. -/
import Derived.Test.YtaaggekifibocaaScale
import Derived.Test.YtaaggekifibocaaKnown
import Derived.Test.YtaaggekifibocaaCmp
namespace Go.Proofs.Ytaaggekifibocaa
open Go.RowKit

theorem mul_small {f b : Int} (h1 : -99 ≤ f) (h2 : f ≤ 99) (h3 : -99 ≤ b) (h4 : b ≤ 99) : wrap64 (f * b) = f * b := by
  have a1 := Int.mul_nonneg (show 0 ≤ 99 - f by omega) (show 0 ≤ 99 + b by omega)
  have a2 := Int.mul_nonneg (show 0 ≤ 99 + f by omega) (show 0 ≤ 99 - b by omega)
  have a3 := Int.mul_nonneg (show 0 ≤ 99 - f by omega) (show 0 ≤ 99 - b by omega)
  have a4 := Int.mul_nonneg (show 0 ≤ 99 + f by omega) (show 0 ≤ 99 + b by omega)
  simp only [Int.sub_mul, Int.mul_sub, Int.add_mul, Int.mul_add] at a1 a2 a3 a4
  generalize f * b = z at *
  exact w_small (by omega) (by omega)

theorem sc_at {p : List Int} {b : Int} (h : scE p b = 0) : validE p = 0 ∧ p.all (scF b) = true := by
  unfold scE at h
  by_cases hv : validE p = 0
  · rw [if_pos hv] at h
    by_cases ha : p.all (scF b) = true
    · exact ⟨hv, ha⟩
    · rw [if_neg ha] at h; cases h
  · rw [if_neg hv] at h; exact absurd h hv
theorem sc_pt {p : List Int} {b : Int} (h : p.all (scF b) = true) (k : Nat) : p.getD k 0 = 0 ∨ (inB b (-99) 99 = true ∧ inB (wrap64 (p.getD k 0 * b)) (-99) 99 = true) := by
  by_cases hk : k < p.length
  · have h1 := List.all_eq_true.1 h (p.getD k 0) (by simp [hk])
    by_cases h0 : p.getD k 0 = 0
    · exact .inl h0
    · rw [scF, beq_eq_false_iff_ne.2 h0] at h1
      simp only [Bool.false_or, Bool.and_eq_true] at h1
      exact .inr h1
  · exact .inl (by rw [List.getD_eq_getElem?_getD, List.getElem?_eq_none (by omega)]; rfl)
theorem inB_iff {n lo hi : Int} : inB n lo hi = true ↔ lo ≤ n ∧ n ≤ hi := by simp [inB]
theorem scM_get {p : List Int} {m b : Int} (ok : Ok p m) (h : p.all (scF b) = true) (k : Nat) : (scM b p).getD k 0 = p.getD k 0 * b := by
  have h1 : (scM b p).getD k 0 = wrap64 (p.getD k 0 * b) := by
    by_cases hk : k < p.length
    · simp [scM, hk]
    · simp only [scM, List.getD_eq_getElem?_getD, List.getElem?_map, List.getElem?_eq_none (show p.length ≤ k by omega)]
      show (0 : Int) = wrap64 (0 * b)
      rw [Int.zero_mul]; decide +kernel
  rw [h1]
  rcases sc_pt h k with h2 | ⟨h2, _⟩
  · rw [h2, Int.zero_mul]; decide +kernel
  · have := ok.force k
    have hb := inB_iff.1 h2
    exact mul_small this.1 this.2 hb.1 hb.2

theorem x_scale {p q : List Int} {b : Int} (m : Int) (h : ∀ k, q.getD k 0 = p.getD k 0 * b) : ∀ k, sZ m q k = timesZ b (sZ m p k) ∧ xZ m q k = timesZ b (xZ m p k) := by
  have hs : ∀ k, sZ m q k = timesZ b (sZ m p k) := fun k => by
    simp only [sZ, timesZ, h]
    rw [Int.mul_comm (p.getD k 0) b, Int.mul_assoc, Int.mul_assoc]
  have hx : ∀ k, xZ m q k = timesZ b (xZ m p k) := fun k => by
    induction k with
    | zero => simp [xZ, timesZ]
    | succ k ih => rw [xZ, ih, hs, xZ]; simp only [plusZ, timesZ, Int.mul_add]
  exact fun k => ⟨hs k, hx k⟩
theorem a_scale {p q : List Int} {b : Int} (m : Int) (h : ∀ k, q.getD k 0 = p.getD k 0 * b) : ∀ k, aZ m q k = aZ m p k * b * b
  | 0 => by simp [aZ]
  | k + 1 => by
    rw [aZ, a_scale m h k, (x_scale m h k).1, (x_scale m h k).2, aZ, Int.add_mul, Int.add_mul]
    have e : ∀ x s : Int × Int, crossZ (timesZ b x) (timesZ b s) = crossZ x s * b * b := fun x s => by
      simp only [crossZ, timesZ, Int.sub_mul]
      have e1 : ∀ y z : Int, b * y * (b * z) = y * z * b * b := fun y z => by ac_rfl
      rw [e1, e1]
    rw [e]
theorem a_none {p : List Int} (m : Int) (h : ∀ k, p.getD k 0 = 0) (k : Nat) : aZ m p k = 0 := by
  have hs : ∀ k, sZ m p k = (0, 0) := fun k => by simp only [sZ, timesZ, h, Int.zero_mul]
  induction k with
  | zero => rfl
  | succ k ih => rw [aZ, ih, hs]; simp [crossZ]

theorem scL_len (p : List Int) (b : Int) : (scL p b).length ≤ p.length := by
  unfold scL
  by_cases h : scE p b = 0
  · rw [if_pos h, scM_len]; exact Nat.le_refl _
  · rw [if_neg h]; exact Nat.zero_le _

theorem scale_facts {p : List Int} {b m : Int} (h : scE p b = 0) (hi : inE p m = 0) :
    inE (scL p b) m = 0 ∧ areaG (scL p b) m = wrap64 (wrap64 (areaG p m * b) * b) ∧ ((b < -99 ∨ 99 < b) → areaG p m = 0 ∧ areaG (scL p b) m = 0) := by
  have ok := ok_of hi
  obtain ⟨hv, ha⟩ := sc_at h
  have hL : scL p b = scM b p := by rw [scL, if_pos h]
  have hg := fun k => scM_get ok ha k
  have hin : inE (scM b p) m = 0 := by
    have hvm : validE (scM b p) = 0 := by
      rw [validE, if_pos (by rw [scM_len]; exact ok.len), if_pos]
      rw [forces, List.all_eq_true]
      intro f hf
      obtain ⟨k, hk, rfl⟩ := List.getElem_of_mem hf
      have e : (scM b p)[k] = p.getD k 0 * b := by rw [← hg k, List.getD_eq_getElem?_getD, List.getElem?_eq_getElem hk]; rfl
      rw [e]
      rcases sc_pt ha k with h2 | ⟨h1, h2⟩
      · rw [h2, Int.zero_mul]; decide
      · have := ok.force k
        have hb := inB_iff.1 h1
        rw [mul_small this.1 this.2 hb.1 hb.2] at h2; exact h2
    rw [inE, if_pos hvm, if_pos (inB_iff.2 ok.mode)]
  rw [hL]
  have hA : areaG p m = wrap64 (aZ m p p.length) := by rw [areaG, if_pos hi, area_z]
  have hB : areaG (scM b p) m = wrap64 (aZ m p p.length * b * b) := by rw [areaG, if_pos hin, area_z, scM_len, a_scale m hg]
  refine ⟨hin, ?_, ?_⟩
  · rw [hA, hB, w_mul_l, Int.mul_assoc, Int.mul_assoc, w_mul_l]
  · intro ho
    have h0 : ∀ k, p.getD k 0 = 0 := fun k => by
      rcases sc_pt ha k with h2 | ⟨h1, _⟩
      · exact h2
      · have hb := inB_iff.1 h1; omega
    rw [hA, hB, a_none m h0]
    exact ⟨by decide +kernel, by rw [Int.zero_mul, Int.zero_mul]; decide +kernel⟩

set_option maxRecDepth 100000 in
set_option maxHeartbeats 800000 in
theorem pulseScales_walk (A : Option Addr) (p : List Int) (cap : Nat) (b m : Int) (w : World) (hr : Rd w A (ints p)) (_hb : (Lit.int .i64 b).wf = true) (_hm : (Lit.int .i64 m).wf = true) :
    Calls Try.prog 7 #[.slice A p.length cap, .int .i64 b, .int .i64 m] w fun e w' => e = .returned (.bool true) ∧ Below w.heap.size w w' := by
  by_cases h1 : 100 < p.length
  · have h1' : decide (100 < p.length) = true := by simpa using h1
    go_enter Try.func7, Try.ntmps7
    go_wp2_with (first | (go_at_call 17; refine (long_c _ _ _ _).mono ?_; rintro e w' ⟨rfl, rfl⟩) | (go_at_call 18; refine (known_c _).mono ?_; rintro e w' ⟨rfl, hb1⟩))
    go_ret
    exact ⟨rfl, hb1⟩
  · have h1' : decide (100 < p.length) = false := by simpa using h1
    have HL := scL_len p b
    have HF := Lib.hid (@scale_facts p b m)
    have HA := Lib.hid (scale_c A p cap b w hr)
    have HB := fun w1 (hb : Below w.heap.size w w1) => Lib.hid (rscale_c A p cap b w1 (hr.later hb))
    unfold ScOut at HA HB
    have HC := fun w1 (hb : Below w.heap.size w w1) => Lib.hid (area_c A p cap m w1 (by omega) (hr.later hb))
    generalize scL p b = L at HL HF HA HB
    generalize scE p b = E at HF HA HB
    generalize areaG p m = N at HF HC
    generalize inE p m = I at HF HC
    go_enter Try.func7, Try.ntmps7
    go_wp2_with (go_at_call 17; refine (long_c _ _ _ _).mono ?_; rintro e w' ⟨rfl, rfl⟩)
    refine HA.out.mono ?_
    rintro e w1 ⟨A1, c1, rfl, hr1, hb1⟩
    go_wp2_with (fail)
    refine (HB w1 hb1).out.mono ?_
    rintro e w2 ⟨A2, c2, rfl, hr2, hb2⟩
    have hw2 := bl_call hb1 hb2
    replace hr1 := hr1.later hb2
    clear HA HB
    go_wp2_with (fail)
    refine (sameInts_c A1 A2 L L c1 c2 w2 (by omega) hr1 hr2).mono ?_
    rintro e w3 ⟨rfl, hb3⟩
    have hw3 := bl_call hw2 hb3
    replace hr1 := hr1.later hb3
    clear hr2
    rw [decide_eq_true rfl]
    go_wp2_with (fail)
    refine (HC w3 hw3).out.mono ?_
    rintro e w4 ⟨rfl, hb4⟩
    have hw4 := bl_call hw3 hb4
    replace hr1 := hr1.later hb4
    clear HC
    have HD := Lib.hid (area_c A1 L c1 m w4 (by omega) hr1)
    generalize areaG L m = M at HF HD
    generalize inE L m = J at HF HD
    go_wp2_with (fail)
    refine HD.out.mono ?_
    rintro e w5 ⟨rfl, hb5⟩
    have hw5 := bl_call hw4 hb5
    clear HD hr1
    by_cases hE : (E != 0) = true
    · go_wp2_with (fail)
      refine (known_c _).mono ?_
      rintro e w7 ⟨rfl, hb7⟩
      go_wp2_with (fail)
      go_ret
      exact ⟨rfl, bl_call hw5 hb7⟩
    · have hE' : (E != 0) = false := by simpa using hE
      have hE0 : E = 0 := by simpa using hE'
      clear hE
      by_cases hI : (I != 0) = true
      · go_wp2_with (fail)
        refine (known_c _).mono ?_
        rintro e w7 ⟨rfl, hb7⟩
        go_wp2_with (fail)
        go_ret
        exact ⟨rfl, bl_call hw5 hb7⟩
      · have hI' : (I != 0) = false := by simpa using hI
        have hI0 : I = 0 := by simpa using hI'
        obtain ⟨rfl, hM, hO⟩ := HF.out hE0 hI0
        clear hI HF
        by_cases ho : b < -99 ∨ 99 < b
        · obtain ⟨rfl, rfl⟩ := hO ho
          clear hO hM
          rcases ho with ho | ho
          · go_wp2_with (fail)
            refine (known_c _).mono ?_
            rintro e w7 ⟨rfl, hb7⟩
            go_wp2_with (fail)
            go_ret
            exact ⟨rfl, bl_call hw5 hb7⟩
          · go_wp2_with (fail)
            refine (known_c _).mono ?_
            rintro e w7 ⟨rfl, hb7⟩
            go_wp2_with (fail)
            go_ret
            exact ⟨rfl, bl_call hw5 hb7⟩
        · have ho1 : ¬ b < -99 := fun h => ho (.inl h)
          have ho2 : ¬ 99 < b := fun h => ho (.inr h)
          subst hM
          clear hO ho
          go_wp2_with (fail)
          refine (known_c _).mono ?_
          rintro e w7 ⟨rfl, hb7⟩
          go_wp2_with (fail)
          go_ret
          exact ⟨rfl, bl_call hw5 hb7⟩
end Go.Proofs.Ytaaggekifibocaa
