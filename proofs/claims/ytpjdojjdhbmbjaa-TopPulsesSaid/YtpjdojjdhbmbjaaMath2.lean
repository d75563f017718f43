/- The sums of paths; the area in the opposite mode. -/
import Derived.Test.YtpjdojjdhbmbjaaMath
import Derived.Test.YtpjdojjdhbmbjaaRsum
namespace Go.Proofs.Ytpjdojjdhbmbjaa
open Go.RowKit

def tZ (m : Int) (p : List Int) : Nat → Int × Int
  | 0 => (0, 0)
  | k + 1 => plusZ (tZ m p k) (xZ m p (k + 1))
def rZ (m : Int) (p : List Int) (n : Nat) : Nat → Int × Int
  | 0 => (0, 0)
  | k + 1 => plusZ (rZ m p n k) (timesZ (n - k : Int) (sZ m p k))
theorem sum_path (m : Int) (p : List Int) : ∀ k, sumP (preL m p (k + 1)) = W2 (tZ m p k)
  | 0 => by simp [preL, sumP, ptAt, tZ, W2, plusW, wrap64]
  | k + 1 => by rw [preL_succ, sumP_snoc, sum_path m p k, ptAt_z, plus_w]; rfl
theorem sum_to {p : List Int} {m : Int} (h : Ok p m) (n : Nat) : ∀ k, k ≤ p.length → sumTo n (stepsL m p) k = W2 (rZ m p n k)
  | 0, _ => by simp [sumTo, rZ, W2, wrap64]
  | k + 1, hk => by
    rw [sumTo_succ, sum_to h n k (by omega), getD_steps h (by omega), times_w, plus_w]; rfl
theorem rZ_more (m : Int) (p : List Int) (n : Nat) : ∀ k, rZ m p (n + 1) k = plusZ (rZ m p n k) (xZ m p k)
  | 0 => by simp [rZ, xZ, plusZ]
  | k + 1 => by
    rw [rZ, rZ_more m p n k, rZ, xZ]
    have e : ((n + 1 : Nat) : Int) - (k : Int) = ((n : Int) - k) + 1 := by omega
    simp only [plusZ, timesZ, e, Int.add_mul, Int.one_mul]
    ext <;> simp <;> omega
theorem rZ_t (m : Int) (p : List Int) : ∀ n, rZ m p n n = tZ m p n
  | 0 => rfl
  | n + 1 => by
    rw [rZ_more, tZ, ← rZ_t m p n]
    congr 1
    rw [rZ, Int.sub_self]
    simp [plusZ, timesZ]
theorem sum_same {p : List Int} {m : Int} (h : Ok p m) : sumP (pathL m p) = sumR m p := by
  rw [← preL_all, sum_path, sumR, sum_to h _ _ (Nat.le_refl _), rZ_t]

/-! The opposite mode. -/
def conj (a : Int × Int) : Int × Int := (a.1, -a.2)
def opp (m : Int) : Int := (4 - m) % 4
theorem quad_m : quad 0 = 0 ∧ quad 1 = 1 ∧ quad 2 = 2 ∧ quad 3 = 3 := by decide +kernel
theorem turn_opp (m : Int) (hm : 0 ≤ m ∧ m ≤ 3) (a : Int × Int) : turnZ (opp m) (conj a) = conj (turnZ m a) := by
  obtain ⟨q0, q1, q2, q3⟩ := quad_m
  have hc : m = 0 ∨ m = 1 ∨ m = 2 ∨ m = 3 := by omega
  rcases hc with rfl | rfl | rfl | rfl
  · simp [opp, turnZ, q0]
  · simp [opp, turnZ, q1, q3, conj]
  · simp [opp, turnZ, q2, conj]
  · simp [opp, turnZ, q1, q3, conj]
theorem way_opp (m : Int) (hm : 0 ≤ m ∧ m ≤ 3) : ∀ k, wayZ (opp m) k = conj (wayZ m k)
  | 0 => rfl
  | k + 1 => by rw [wayZ, way_opp m hm k, turn_opp m hm]; rfl
theorem s_opp (m : Int) (hm : 0 ≤ m ∧ m ≤ 3) (p : List Int) (k : Nat) : sZ (opp m) p k = conj (sZ m p k) := by
  rw [sZ, way_opp m hm]; simp [sZ, timesZ, conj, Int.mul_neg]
theorem x_opp (m : Int) (hm : 0 ≤ m ∧ m ≤ 3) (p : List Int) : ∀ k, xZ (opp m) p k = conj (xZ m p k)
  | 0 => rfl
  | k + 1 => by rw [xZ, x_opp m hm p k, s_opp m hm]; simp only [plusZ, conj, xZ]; ext <;> simp <;> omega
theorem a_opp (m : Int) (hm : 0 ≤ m ∧ m ≤ 3) (p : List Int) : ∀ k, aZ (opp m) p k = -aZ m p k
  | 0 => rfl
  | k + 1 => by rw [aZ, a_opp m hm p k, x_opp m hm, s_opp m hm]; simp only [crossZ, conj, aZ, Int.mul_neg, Int.neg_mul]; omega
theorem area_opp (m : Int) (hm : 0 ≤ m ∧ m ≤ 3) (p : List Int) : areaP (pathL (opp m) p) = wrap64 (-(areaP (pathL m p))) := by
  rw [area_z, area_z, a_opp m hm, w_neg]
theorem inE_mode {p : List Int} {m : Int} (h : inE p m = 0) : 0 ≤ m ∧ m ≤ 3 ∧ inE p (opp m) = 0 := by
  have hm := (ok_of h).mode
  refine ⟨hm.1, hm.2, ?_⟩
  unfold inE at h ⊢
  by_cases hv : validE p = 0
  · rw [if_pos hv, if_pos]
    have : 0 ≤ opp m ∧ opp m ≤ 3 := by unfold opp; omega
    simp [inB]; omega
  · rw [if_neg hv] at h; exact absurd h hv
end Go.Proofs.Ytpjdojjdhbmbjaa
