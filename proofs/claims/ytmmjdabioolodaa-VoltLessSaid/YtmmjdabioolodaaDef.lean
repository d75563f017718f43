/- What the functions of package volt answer, as functions of lists and numbers. -/
import Derived.Test.YtmmjdabioolodaaVal
namespace Go.Proofs.Ytmmjdabioolodaa
open Go.RowKit

def wayB (g : List (List Int)) (l : List Int) : Bool := okG g && okW g l
theorem wayB_iff {g : List (List Int)} {l : List Int} (h : wayB g l = true) : OkG g ∧ OkV l g.length 1000 := by
  unfold wayB at h
  rw [Bool.and_eq_true] at h
  exact ⟨okG_iff.1 h.1, (okN_iff (by decide)).1 h.2⟩
def wayG (g : List (List Int)) (l : List Int) : Int := if wayB g l = true then ((makersL g l).length : Int) else 0
def chvE (g : List (List Int)) (l v : List Int) : Int := if (wayB g l && okL g v) = true then (if makeB g l v = true then 0 else 7) else 1
def calmG (g : List (List Int)) (l : List Int) : Int × Bool := if wayB g l = true then calmL g l else (0, false)
def quietG (g : List (List Int)) : Option (List Int) := if okG g = true then quietL g else none
def nearG (g : List (List Int)) (l : List Int) : Int × List Int := if wayB g l = true then (nearF g l (voltsL (wires g))).getD (0, []) else (0, [])
def fldsG (g : List (List Int)) : Int := if okG g = true then ((distL g).length : Int) else 0
/-- What a search has found, or nil. -/
def found (o : Option (List Int)) : List Int := o.getD []
/-- A list that reads, a bool and an error. -/
def OutS (o : Option (List Int)) (x : Int) (w : World) (e : Ending) (w' : World) : Prop :=
  ∃ A' c', e = .returned (.tuple #[.slice A' (found o).length c', .bool o.isSome, .int .i64 x]) ∧ Rd w' A' (ints (found o)) ∧ Below w.heap.size w w'
end Go.Proofs.Ytmmjdabioolodaa
