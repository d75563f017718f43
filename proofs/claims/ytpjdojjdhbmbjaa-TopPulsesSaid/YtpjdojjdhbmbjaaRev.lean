/- A pulse from the end on has the same area, and is closed in the same modes: mathematics alone. -/
import Derived.Test.YtpjdojjdhbmbjaaRmodes
namespace Go.Proofs.Ytpjdojjdhbmbjaa
open Go.RowKit

def SZ (h : Nat → Int) : Nat → Int
  | 0 => 0
  | n + 1 => SZ h n + h n
theorem SZ_congr (h g : Nat → Int) : ∀ n, (∀ j, j < n → h j = g j) → SZ h n = SZ g n
  | 0, _ => rfl
  | n + 1, e => by rw [SZ, SZ, SZ_congr h g n (fun j hj => e j (by omega)), e n (by omega)]
theorem SZ_cons (h : Nat → Int) : ∀ n, SZ h (n + 1) = h 0 + SZ (fun j => h (j + 1)) n
  | 0 => by simp [SZ]
  | n + 1 => by rw [SZ, SZ_cons h n, SZ]; omega
theorem SZ_rev (h : Nat → Int) : ∀ n, SZ (fun k => h (n - 1 - k)) n = SZ h n
  | 0 => rfl
  | n + 1 => by
    rw [SZ_cons, SZ, ← SZ_rev h n]
    have e : SZ (fun j => h (n + 1 - 1 - (j + 1))) n = SZ (fun k => h (n - 1 - k)) n := SZ_congr _ _ n fun j hj => by
      show h _ = h _
      congr 1; omega
    rw [e]
    show h (n + 1 - 1 - 0) + _ = _
    rw [show n + 1 - 1 - 0 = n by omega]; omega

def AZ (s f : Nat → Int) : Nat → Int
  | 0 => 0
  | n + 1 => AZ s f n + f n * SZ (fun j => f j * s (n - j)) n
theorem AZ_congr (s f g : Nat → Int) : ∀ n, (∀ j, j < n → f j = g j) → AZ s f n = AZ s g n
  | 0, _ => rfl
  | n + 1, e => by
    rw [AZ, AZ, AZ_congr s f g n (fun j hj => e j (by omega)), e n (by omega), SZ_congr _ (fun j => g j * s (n - j)) n (fun j hj => by show f j * _ = _; rw [e j (by omega)])]
theorem AZ_cons (s f : Nat → Int) : ∀ n, AZ s f (n + 1) = AZ s (fun j => f (j + 1)) n + f 0 * SZ (fun k => f (k + 1) * s (k + 1)) n
  | 0 => by simp [AZ, SZ]
  | n + 1 => by
    rw [AZ, AZ_cons s f n, AZ, SZ_cons, SZ]
    have e : SZ (fun j => f (j + 1) * s (n + 1 - (j + 1))) n = SZ (fun j => f (j + 1) * s (n - j)) n := SZ_congr _ _ n fun j _ => by
      show f (j + 1) * s _ = _
      rw [Nat.add_sub_add_right]
    rw [e]
    generalize SZ (fun j => f (j + 1) * s (n - j)) n = a
    generalize SZ (fun k => f (k + 1) * s (k + 1)) n = b
    generalize AZ s (fun j => f (j + 1)) n = c
    simp only [Nat.sub_zero, Int.mul_add]
    have e1 : f (n + 1) * (f 0 * s (n + 1)) = f 0 * (f (n + 1) * s (n + 1)) := by rw [Int.mul_left_comm]
    rw [e1]; omega
theorem AZ_rev (s : Nat → Int) : ∀ n (f : Nat → Int), AZ s (fun j => f (n - 1 - j)) n = AZ s f n
  | 0, _ => rfl
  | n + 1, f => by
    rw [AZ_cons, AZ, ← AZ_rev s n f]
    have e1 : AZ s (fun j => f (n + 1 - 1 - (j + 1))) n = AZ s (fun j => f (n - 1 - j)) n := AZ_congr _ _ _ n fun j _ => by
      show f _ = f _
      congr 1; omega
    have e2 : SZ (fun k => f (n + 1 - 1 - (k + 1)) * s (k + 1)) n = SZ (fun j => f j * s (n - j)) n := by
      rw [← SZ_rev (fun j => f j * s (n - j)) n]
      refine SZ_congr _ _ n fun j hj => ?_
      show f _ * s _ = f _ * s _
      rw [show n + 1 - 1 - (j + 1) = n - 1 - j by omega, show n - (n - 1 - j) = j + 1 by omega]
    rw [e1, e2]
    show _ + f (n + 1 - 1 - 0) * _ = _
    rw [show n + 1 - 1 - 0 = n by omega]

theorem cross_turn (m : Int) (a b : Int × Int) : crossZ (turnZ m a) (turnZ m b) = crossZ a b := by
  unfold turnZ crossZ
  split
  · simp only [Int.neg_mul, Int.mul_neg]; omega
  · split
    · simp only [Int.neg_mul, Int.mul_neg]; omega
    · split
      · simp only [Int.neg_mul, Int.mul_neg]; omega
      · rfl
theorem cross_way (m : Int) (d : Nat) : ∀ j, crossZ (wayZ m j) (wayZ m (j + d)) = (wayZ m d).2
  | 0 => by rw [Nat.zero_add]; simp [crossZ, wayZ]
  | j + 1 => by
    rw [show j + 1 + d = (j + d) + 1 by omega, wayZ, wayZ, cross_turn, cross_way m d j]
theorem cross_x (m : Int) (p : List Int) (c : Int) (n : Nat) : ∀ k, k ≤ n → crossZ (xZ m p k) (timesZ c (wayZ m n)) = c * SZ (fun j => p.getD j 0 * (wayZ m (n - j)).2) k
  | 0, _ => by simp [xZ, crossZ, SZ]
  | k + 1, h => by
    have e1 : ∀ a b d : Int × Int, crossZ (plusZ a b) d = crossZ a d + crossZ b d := fun a b d => by simp only [crossZ, plusZ, Int.add_mul]; omega
    have e2 : ∀ x y (a b : Int × Int), crossZ (timesZ x a) (timesZ y b) = y * (x * crossZ a b) := fun x y a b => by
      simp only [crossZ, timesZ, Int.mul_sub]
      have e3 : ∀ u v : Int, x * u * (y * v) = y * (x * (u * v)) := fun u v => by ac_rfl
      rw [e3, e3]
    have e4 := cross_way m (n - k) k
    rw [show k + (n - k) = n by omega] at e4
    rw [xZ, e1, cross_x m p c n k (by omega), SZ, sZ, e2, e4, Int.mul_add]
theorem aZ_AZ (m : Int) (p : List Int) : ∀ k, aZ m p k = AZ (fun d => (wayZ m d).2) (fun j => p.getD j 0) k
  | 0 => rfl
  | k + 1 => by rw [aZ, AZ, aZ_AZ m p k, sZ, cross_x m p _ k k (Nat.le_refl _)]
theorem getD_rev {p : List Int} {j : Nat} (h : j < p.length) : p.reverse.getD j 0 = p.getD (p.length - 1 - j) 0 := by
  have h2 : p.length - 1 - j < p.length := by omega
  simp [h, h2, List.getElem_reverse]
theorem a_rev (m : Int) (p : List Int) : aZ m p.reverse p.length = aZ m p p.length := by
  rw [aZ_AZ, aZ_AZ, ← AZ_rev _ p.length (fun j => p.getD j 0)]
  exact AZ_congr _ _ _ _ fun j hj => getD_rev hj

def XF (m : Int) (f : Nat → Int) : Nat → Int × Int
  | 0 => (0, 0)
  | k + 1 => plusZ (XF m f k) (timesZ (f k) (wayZ m k))
theorem xZ_XF (m : Int) (p : List Int) : ∀ k, xZ m p k = XF m (fun j => p.getD j 0) k
  | 0 => rfl
  | k + 1 => by rw [xZ, XF, xZ_XF m p k, sZ]
theorem XF_congr (m : Int) (f g : Nat → Int) : ∀ n, (∀ j, j < n → f j = g j) → XF m f n = XF m g n
  | 0, _ => rfl
  | n + 1, e => by rw [XF, XF, XF_congr m f g n (fun j hj => e j (by omega)), e n (by omega)]
theorem plus_assoc (a b c : Int × Int) : plusZ (plusZ a b) c = plusZ a (plusZ b c) := by simp only [plusZ, Int.add_assoc]
theorem plus_comm' (a b : Int × Int) : plusZ a b = plusZ b a := by simp only [plusZ, Int.add_comm]
theorem turn_plus (m : Int) (a b : Int × Int) : turnZ m (plusZ a b) = plusZ (turnZ m a) (turnZ m b) := by
  unfold turnZ plusZ
  split
  · simp only [Int.neg_add]
  · split
    · simp only [Int.neg_add]
    · split
      · simp only [Int.neg_add]
      · rfl
theorem turn_tm (m c : Int) (a : Int × Int) : turnZ m (timesZ c a) = timesZ c (turnZ m a) := by
  unfold turnZ timesZ
  split
  · simp only [Int.mul_neg]
  · split
    · simp only [Int.mul_neg]
    · split
      · simp only [Int.mul_neg]
      · rfl
theorem turn_conj (m : Int) (a : Int × Int) : turnZ m (conj (turnZ m a)) = conj a := by
  unfold turnZ conj
  split
  · simp
  · split
    · simp
    · split
      · simp
      · rfl
theorem turn_zero (m : Int) : turnZ m (0, 0) = (0, 0) := by
  unfold turnZ
  split
  · rfl
  · split
    · rfl
    · split <;> rfl
theorem conj_plus (a b : Int × Int) : conj (plusZ a b) = plusZ (conj a) (conj b) := by simp only [conj, plusZ, Int.neg_add]
theorem conj_tm (c : Int) (a : Int × Int) : conj (timesZ c a) = timesZ c (conj a) := by simp only [conj, timesZ, Int.mul_neg]
theorem XF_cons (m : Int) (f : Nat → Int) : ∀ n, XF m f (n + 1) = plusZ (timesZ (f 0) (1, 0)) (turnZ m (XF m (fun j => f (j + 1)) n))
  | 0 => by rw [XF, XF, XF, turn_zero, plus_comm']; rfl
  | n + 1 => by rw [XF, XF_cons m f n, XF, turn_plus, turn_tm, plus_assoc]; rfl
def tN (m : Int) : Nat → Int × Int → Int × Int
  | 0, a => a
  | n + 1, a => turnZ m (tN m n a)
theorem tN_in (m : Int) (a : Int × Int) : ∀ n, tN m (n + 1) a = tN m n (turnZ m a)
  | 0 => rfl
  | n + 1 => by rw [tN, tN_in m a n]; rfl
theorem tN_plus (m : Int) (a b : Int × Int) : ∀ n, tN m n (plusZ a b) = plusZ (tN m n a) (tN m n b)
  | 0 => rfl
  | n + 1 => by rw [tN, tN_plus m a b n, turn_plus]; rfl
theorem tN_tm (m c : Int) (a : Int × Int) : ∀ n, tN m n (timesZ c a) = timesZ c (tN m n a)
  | 0 => rfl
  | n + 1 => by rw [tN, tN_tm m c a n, turn_tm]; rfl
theorem way_conj (m : Int) : ∀ n, tN m n (conj (wayZ m n)) = (1, 0)
  | 0 => rfl
  | n + 1 => by rw [tN_in, wayZ, turn_conj, way_conj m n]
theorem x_rev (m : Int) : ∀ n (f : Nat → Int), turnZ m (XF m (fun j => f (n - 1 - j)) n) = tN m n (conj (XF m f n))
  | 0, f => by rw [XF, XF, turn_zero]; rfl
  | n + 1, f => by
    have e : XF m (fun j => f (n + 1 - 1 - (j + 1))) n = XF m (fun j => f (n - 1 - j)) n := XF_congr _ _ _ n fun j _ => by
      show f _ = f _
      congr 1; omega
    rw [XF_cons, e, x_rev m n f, XF, conj_plus, conj_tm, tN_plus, tN_tm, tN, tN]
    rw [turn_plus]
    have e2 := way_conj m n
    show plusZ (turnZ m (timesZ (f (n + 1 - 1 - 0)) (1, 0))) _ = plusZ _ (timesZ (f n) (turnZ m (tN m n (conj (wayZ m n)))))
    rw [e2, turn_tm, plus_comm', show n + 1 - 1 - 0 = n by omega]

theorem w_zero (x : Int) : wrap64 (-x) = 0 ↔ wrap64 x = 0 := by unfold wrap64; omega
theorem turn_z (m : Int) (a : Int × Int) : W2 (turnZ m a) = (0, 0) ↔ W2 a = (0, 0) := by
  unfold turnZ W2
  split
  · simp only [Prod.mk.injEq, w_zero]; exact And.comm
  · split
    · simp only [Prod.mk.injEq, w_zero]
    · split
      · simp only [Prod.mk.injEq, w_zero]; exact And.comm
      · rfl
theorem tN_z (m : Int) (a : Int × Int) : ∀ n, W2 (tN m n a) = (0, 0) ↔ W2 a = (0, 0)
  | 0 => Iff.rfl
  | n + 1 => by rw [tN, turn_z, tN_z m a n]
theorem conj_z (a : Int × Int) : W2 (conj a) = (0, 0) ↔ W2 a = (0, 0) := by simp only [W2, conj, Prod.mk.injEq, w_zero]
theorem closedB_z (p : List Int) (m : Int) : closedB p m = (W2 (xZ m p p.length) == (0, 0)) := by rw [closedB, lastP_path, ptAt_z]
theorem closed_rev (p : List Int) (m : Int) : closedB p.reverse m = closedB p m := by
  rw [closedB_z, closedB_z, List.length_reverse, Bool.eq_iff_iff, beq_iff_eq, beq_iff_eq, xZ_XF, xZ_XF]
  rw [XF_congr m (fun j => p.reverse.getD j 0) (fun j => p.getD (p.length - 1 - j) 0) p.length (fun j hj => getD_rev hj)]
  rw [← turn_z m, x_rev m p.length (fun j => p.getD j 0), tN_z, conj_z]
theorem area_rev (p : List Int) (m : Int) : areaP (pathL m p.reverse) = areaP (pathL m p) := by rw [area_z, area_z, List.length_reverse, a_rev]
end Go.Proofs.Ytpjdojjdhbmbjaa
