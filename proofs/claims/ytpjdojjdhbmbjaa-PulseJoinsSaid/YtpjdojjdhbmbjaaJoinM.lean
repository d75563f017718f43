/- One pulse behind another one: mathematics alone. -/
import Derived.Test.YtpjdojjdhbmbjaaDelaysW
namespace Go.Proofs.Ytpjdojjdhbmbjaa
open Go.RowKit

theorem j_at (p q : List Int) (k : Nat) : (p ++ q).getD (p.length + k) 0 = q.getD k 0 := by
  simp only [List.getD_eq_getElem?_getD, List.getElem?_append]
  rw [if_neg (by omega), Nat.add_sub_cancel_left]
theorem j_first (p q : List Int) (j : Nat) (h : j < p.length) : (p ++ q).getD j 0 = p.getD j 0 := by
  simp only [List.getD_eq_getElem?_getD, List.getElem?_append]
  rw [if_pos h]
theorem x_left (m : Int) (p q : List Int) : ∀ j, j ≤ p.length → xZ m (p ++ q) j = xZ m p j ∧ aZ m (p ++ q) j = aZ m p j
  | 0, _ => ⟨rfl, rfl⟩
  | j + 1, h => by
    obtain ⟨h1, h2⟩ := x_left m p q j (by omega)
    have hs : sZ m (p ++ q) j = sZ m p j := by rw [sZ, j_first p q j (by omega), sZ]
    exact ⟨by rw [xZ, h1, hs, xZ], by rw [aZ, h1, h2, hs, aZ]⟩
theorem cross_plus_l (a b c : Int × Int) : crossZ (plusZ a b) c = crossZ a c + crossZ b c := by simp only [crossZ, plusZ, Int.add_mul]; omega
theorem cross_plus_r (a b c : Int × Int) : crossZ a (plusZ b c) = crossZ a b + crossZ a c := by simp only [crossZ, plusZ, Int.mul_add]; omega
theorem x_join (m : Int) (p q : List Int) : ∀ k, xZ m (p ++ q) (p.length + k) = plusZ (xZ m p p.length) (tN m p.length (xZ m q k)) ∧
    aZ m (p ++ q) (p.length + k) = aZ m p p.length + aZ m q k + crossZ (xZ m p p.length) (tN m p.length (xZ m q k))
  | 0 => by
    obtain ⟨h1, h2⟩ := x_left m p q p.length (Nat.le_refl _)
    refine ⟨?_, ?_⟩
    · rw [Nat.add_zero, h1, xZ, tN_zero]; simp [plusZ]
    · rw [Nat.add_zero, h2, xZ, tN_zero, aZ]; simp [crossZ]
  | k + 1 => by
    obtain ⟨h1, h2⟩ := x_join m p q k
    have hs : sZ m (p ++ q) (p.length + k) = tN m p.length (sZ m q k) := by rw [sZ, j_at, way_add, sZ, tN_tm]
    refine ⟨?_, ?_⟩
    · rw [← Nat.add_assoc, xZ, h1, hs, xZ, tN_plus, plus_assoc]
    · rw [← Nat.add_assoc, aZ, h1, h2, hs, cross_plus_l, cross_tN, xZ, tN_plus, cross_plus_r, aZ]; omega
end Go.Proofs.Ytpjdojjdhbmbjaa
