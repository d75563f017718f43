/- Plans as lists: to which place one leads, or at which move it fails. -/
import Derived.Test.YtjgpfnnokdcgoaaBfs
namespace Go.Proofs.Ytjgpfnnokdcgoaa
open Go.RowKit Go.Maps

/-- The error of a move of a place. -/
def moveE (l : List (Int × Int)) (Z : Int) (p : List Int) (m : Int × Int) : Int :=
  if zoneOk p.length m.1 && zoneOk Z m.2 then (if linkB l (p.getD m.1.toNat 0) m.2 then (if p.contains m.2 then 6 else 0) else 8) else 4
/-- A plan done from a place on: the place at its end, the number of moves, an error. -/
def planR (l : List (Int × Int)) (Z : Int) : List Int → Nat → List (Int × Int) → List Int × Nat × Int
  | p, k, [] => (p, k, 0)
  | p, k, m :: r => if moveE l Z p m = 0 then planR l Z (nx p m) (k + 1) r else ([], k, moveE l Z p m)
def planG (Z : Int) (l : List (Int × Int)) (p : List Int) (M : List (Int × Int)) : List Int × Nat × Int :=
  if placeE Z l p = 0 then (if M.length ≤ 400 then planR l Z p 0 M else ([], 0, 3)) else ([], 0, placeE Z l p)
theorem planR_step {l : List (Int × Int)} {Z : Int} {p : List Int} {M : List (Int × Int)} {k : Nat} (hk : k < M.length) :
    planR l Z p k (M.drop k) = if moveE l Z p (M.getD k (0, 0)) = 0 then planR l Z (nx p (M.getD k (0, 0))) (k + 1) (M.drop (k + 1)) else ([], k, moveE l Z p (M.getD k (0, 0))) := by
  rw [List.drop_eq_getElem_cons hk, planR]
  have e : M.getD k (0, 0) = M[k] := by simp [hk]
  rw [e]
theorem planR_done {l : List (Int × Int)} {Z : Int} {p : List Int} {M : List (Int × Int)} : planR l Z p M.length (M.drop M.length) = (p, M.length, 0) := by
  rw [List.drop_length, planR]
theorem planR_len {l : List (Int × Int)} {Z : Int} : ∀ (M : List (Int × Int)) (p : List Int) (k : Nat), (planR l Z p k M).1.length ≤ p.length
  | [], p, k => Nat.le_refl _
  | m :: r, p, k => by
    rw [planR]
    split
    · have := planR_len (l := l) (Z := Z) r (nx p m) (k + 1)
      simpa using this
    · simp
theorem planG_len (Z : Int) (l : List (Int × Int)) (p : List Int) (M : List (Int × Int)) : (planG Z l p M).1.length ≤ 1000 := by
  rw [planG]
  split
  · rename_i h
    split
    · have := planR_len (l := l) (Z := Z) M p 0
      have := (placeE_zero h).2.1
      omega
    · simp
  · simp
theorem zoneOk_nat {n : Int} {x : Int} (h : zoneOk n x = true) : ∃ k : Nat, x = (k : Int) ∧ (k : Int) < n := by
  obtain ⟨h0, h1⟩ := zoneOk_iff.1 h
  obtain ⟨k, rfl⟩ := Int.eq_ofNat_of_zero_le h0
  exact ⟨k, rfl, h1⟩
/-- A list of numbers, a number and an error. -/
def OutP (x : List Int × Nat × Int) (w : World) (e : Ending) (w' : World) : Prop :=
  ∃ A' c', e = .returned (.tuple #[.slice A' x.1.length c', .int .i64 x.2.1, .int .i64 x.2.2]) ∧ w'.ownsRow w.heap.size 3 1 (.slice A' x.1.length c') x.1.length (ints x.1) ∧ Below w.heap.size w w'
end Go.Proofs.Ytjgpfnnokdcgoaa
