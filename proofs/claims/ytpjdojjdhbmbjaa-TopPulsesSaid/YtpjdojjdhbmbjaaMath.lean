/- The paths of pulses: both ways of reckoning come to the same. -/
import Derived.Test.YtpjdojjdhbmbjaaVals
import Derived.Test.YtpjdojjdhbmbjaaRend
namespace Go.Proofs.Ytpjdojjdhbmbjaa
open Go.RowKit

theorem w_shift (x k : Int) : wrap64 (x + k * 18446744073709551616) = wrap64 x := by unfold wrap64; omega
theorem w_rep (x : Int) : ∃ k, wrap64 x = x + k * 18446744073709551616 := ⟨-((x + 9223372036854775808) / 18446744073709551616), by unfold wrap64; omega⟩
theorem w_w (a : Int) : wrap64 (wrap64 a) = wrap64 a := by unfold wrap64; omega
theorem w_add_l (a b : Int) : wrap64 (wrap64 a + b) = wrap64 (a + b) := by unfold wrap64; omega
theorem w_add_r (a b : Int) : wrap64 (a + wrap64 b) = wrap64 (a + b) := by unfold wrap64; omega
theorem w_sub_l (a b : Int) : wrap64 (wrap64 a - b) = wrap64 (a - b) := by unfold wrap64; omega
theorem w_sub_r (a b : Int) : wrap64 (a - wrap64 b) = wrap64 (a - b) := by unfold wrap64; omega
theorem w_neg (a : Int) : wrap64 (-(wrap64 a)) = wrap64 (-a) := by unfold wrap64; omega
theorem w_mul_l (a b : Int) : wrap64 (wrap64 a * b) = wrap64 (a * b) := by
  obtain ⟨k, hk⟩ := w_rep a
  rw [hk, Int.add_mul, Int.mul_assoc, Int.mul_comm 18446744073709551616 b, ← Int.mul_assoc, w_shift]
theorem w_mul_r (a b : Int) : wrap64 (a * wrap64 b) = wrap64 (a * b) := by rw [Int.mul_comm, w_mul_l, Int.mul_comm]
theorem w_small {a : Int} (h : -9223372036854775808 ≤ a) (h' : a ≤ 9223372036854775807) : wrap64 a = a := IntWalk.wrap64_in _ ⟨h, h'⟩

/-! Without wrapping. -/
def W2 (a : Int × Int) : Int × Int := (wrap64 a.1, wrap64 a.2)
def plusZ (a b : Int × Int) : Int × Int := (a.1 + b.1, a.2 + b.2)
def crossZ (a b : Int × Int) : Int := a.1 * b.2 - a.2 * b.1
def turnZ (q : Int) (a : Int × Int) : Int × Int :=
  if quad q == 1 then (-a.2, a.1) else if quad q == 2 then (-a.1, -a.2) else if quad q == 3 then (a.2, -a.1) else a
def timesZ (f : Int) (a : Int × Int) : Int × Int := (f * a.1, f * a.2)

theorem plus_w (a b : Int × Int) : plusW (W2 a) (W2 b) = W2 (plusZ a b) := by simp only [plusW, W2, plusZ, w_add_l, w_add_r]
theorem cross_w (a b : Int × Int) : crossW (W2 a) (W2 b) = wrap64 (crossZ a b) := by simp only [crossW, W2, crossZ, w_mul_l, w_mul_r, w_sub_l, w_sub_r]
theorem turn_w (q : Int) (a : Int × Int) : turnW q (W2 a) = W2 (turnZ q a) := by
  unfold turnW turnZ
  split
  · simp only [W2, w_neg]
  · split
    · simp only [W2, w_neg]
    · split
      · simp only [W2, w_neg]
      · rfl
theorem times_w (f : Int) (a : Int × Int) : (wrap64 (f * (W2 a).1), wrap64 (f * (W2 a).2)) = W2 (timesZ f a) := by simp only [W2, timesZ, w_mul_r]
theorem turn_times (q f : Int) : turnZ q (f, 0) = timesZ f (turnZ q (1, 0)) := by
  unfold turnZ timesZ
  split
  · simp
  · split
    · simp
    · split <;> simp

/-- The way of the segment k. -/
def wayZ (m : Int) : Nat → Int × Int
  | 0 => (1, 0)
  | k + 1 => turnZ m (wayZ m k)
def sZ (m : Int) (p : List Int) (k : Nat) : Int × Int := timesZ (p.getD k 0) (wayZ m k)
/-- The point behind k segments. -/
def xZ (m : Int) (p : List Int) : Nat → Int × Int
  | 0 => (0, 0)
  | k + 1 => plusZ (xZ m p k) (sZ m p k)

theorem ptAt_z (m : Int) (p : List Int) : ∀ k, ptAt m p k = (W2 (xZ m p k), W2 (wayZ m k))
  | 0 => by simp [ptAt, xZ, wayZ, W2, wrap64]
  | k + 1 => by
    rw [ptAt, ptAt_z m p k]
    simp only [turn_w, times_w, plus_w]
    rfl

theorem way_turn (m : Int) (k : Nat) (hm : 0 ≤ m ∧ m ≤ 3) (hk : k ≤ 12) : turnZ (wrap64 (m * k)) (1, 0) = wayZ m k := by
  obtain ⟨n, rfl⟩ := Int.eq_ofNat_of_zero_le hm.1
  have h : ∀ n : Fin 4, ∀ k : Fin 13, turnZ (wrap64 ((n.val : Int) * (k.val : Int))) (1, 0) = wayZ (n.val : Int) k.val := by decide +kernel
  exact h ⟨n, by omega⟩ ⟨k, by omega⟩

/-- What the statements assume of a pulse and a mode. -/
structure Ok (p : List Int) (m : Int) : Prop where
  len : p.length ≤ 12
  mode : 0 ≤ m ∧ m ≤ 3
  force : ∀ k, -99 ≤ p.getD k 0 ∧ p.getD k 0 ≤ 99

theorem ok_of {p : List Int} {m : Int} (h : inE p m = 0) : Ok p m := by
  unfold inE at h
  by_cases hv : validE p = 0
  · rw [if_pos hv] at h
    by_cases hm : inB m 0 3 = true
    · unfold validE at hv
      by_cases hl : p.length ≤ 12
      · rw [if_pos hl] at hv
        by_cases hf : forces p = true
        · refine ⟨hl, by simpa [inB] using hm, fun k => ?_⟩
          rcases Nat.lt_or_ge k p.length with h1 | h1
          · have := List.all_eq_true.1 hf p[k] (List.getElem_mem h1)
            simp [inB] at this
            simp [h1]; omega
          · simp [h1]
        · rw [if_neg hf] at hv; cases hv
      · rw [if_neg hl] at hv; cases hv
    · rw [if_neg hm] at h; cases h
  · rw [if_neg hv] at h; exact absurd h hv

theorem step_z {p : List Int} {m : Int} (h : Ok p m) {k : Nat} (hk : k ≤ 12) : stepAt m p k = W2 (sZ m p k) := by
  have e : ((p.getD k 0, 0) : Int × Int) = W2 (p.getD k 0, 0) := by
    have := h.force k
    simp only [W2]; rw [w_small (by omega) (by omega), w_small (a := 0) (by omega) (by omega)]
  rw [stepAt, e, turn_w, turn_times, way_turn m k h.mode hk]; rfl

theorem lastP_path (m : Int) (p : List Int) : lastP (pathL m p) = (ptAt m p p.length).1 := by
  rw [← preL_all, preL_succ, lastP_snoc]

theorem steps_fold {p : List Int} {m : Int} (h : Ok p m) : ∀ k, k ≤ p.length → (stepsTo m p k).foldl plusW (0, 0) = W2 (xZ m p k)
  | 0, _ => by simp [stepsTo, xZ, W2, wrap64]
  | k + 1, hk => by
    rw [stepsTo_succ, List.foldl_append, steps_fold h k (by omega)]
    simp only [List.foldl_cons, List.foldl_nil]
    rw [step_z h (by have := h.len; omega), plus_w]; rfl

theorem end_same {p : List Int} {m : Int} (h : Ok p m) : lastP (pathL m p) = endR m p := by
  rw [lastP_path, ptAt_z]
  exact (steps_fold h p.length (Nat.le_refl _)).symm

/-- The area, without wrapping. -/
def aZ (m : Int) (p : List Int) : Nat → Int
  | 0 => 0
  | k + 1 => aZ m p k + crossZ (xZ m p k) (sZ m p k)
theorem cross_step (a s : Int × Int) : crossZ a (plusZ a s) = crossZ a s := by
  simp only [crossZ, plusZ, Int.mul_add]
  rw [Int.mul_comm a.2 a.1]; omega
theorem area_path (m : Int) (p : List Int) : ∀ k, areaS (preL m p (k + 1)) = (wrap64 (aZ m p k), W2 (xZ m p k))
  | 0 => by simp [preL, areaS, ptAt, aZ, xZ, W2, crossW, wrap64]
  | k + 1 => by
    rw [preL_succ, areaS_snoc, area_path m p k, ptAt_z]
    simp only [cross_w, w_add_l, w_add_r]
    show (wrap64 (aZ m p k + crossZ (xZ m p k) (plusZ (xZ m p k) (sZ m p k))), _) = _
    rw [cross_step]; rfl

theorem getD_steps {p : List Int} {m : Int} (h : Ok p m) {k : Nat} (hk : k < p.length) : (stepsL m p).getD k (0, 0) = W2 (sZ m p k) := by
  rw [← step_z h (by have := h.len; omega)]
  simp [stepsL, hk]
/-- The crosses of the first k steps with another one. -/
theorem area_in {p : List Int} {m : Int} (h : Ok p m) {j : Nat} (hj : j < p.length) (n : Int) : ∀ k, k ≤ j → areaIn (stepsL m p) j k (wrap64 n) = wrap64 (n + crossZ (xZ m p k) (sZ m p j))
  | 0, _ => by simp [areaIn, xZ, crossZ]
  | k + 1, hk => by
    rw [areaIn_succ, area_in h hj n k (by omega), getD_steps h (by omega), getD_steps h hj, cross_w, w_add_l, w_add_r]
    congr 1
    simp only [xZ, crossZ, plusZ, Int.add_mul]
    omega
theorem area_to {p : List Int} {m : Int} (h : Ok p m) : ∀ j, j ≤ p.length → areaTo (stepsL m p) j = wrap64 (aZ m p j)
  | 0, _ => by simp [areaTo, aZ, wrap64]
  | j + 1, hj => by rw [areaTo_succ, area_to h j (by omega), area_in h (by omega) _ j (Nat.le_refl _)]; rfl
theorem area_z (m : Int) (p : List Int) : areaP (pathL m p) = wrap64 (aZ m p p.length) := by rw [areaP, ← preL_all, area_path]
theorem area_same {p : List Int} {m : Int} (h : Ok p m) : areaP (pathL m p) = areaR m p := by
  rw [area_z, areaR, area_to h _ (Nat.le_refl _)]
end Go.Proofs.Ytpjdojjdhbmbjaa
