/- The small functions of the laws. -/
import Derived.Test.YtjgpfnnokdcgoaaVal
namespace Go.Proofs.Ytjgpfnnokdcgoaa
open Go.RowKit

theorem Bx.rd {w : World} {g : Nat} {T : TypeId} {cs : List Value} (h : Bx w g T cs.toArray) : Rd w (some ⟨g, 0, none⟩) cs := by
  refine .inr ⟨g, 0, rfl, Bx.lt h, fun k v hv => ?_⟩
  rw [Nat.zero_add, Bx.cell h k]; simpa using hv
theorem many_c (A : Option Addr) (n c : Nat) (w : World) : Calls Try.prog 18 #[.slice A n c] w fun e w' => e = .returned (.bool (decide (40 < n))) ∧ w = w' := by
  by_cases h : 40 < n
  · have q : (40 : Int) < (n : Int) := by omega
    go_enter Try.func18, Try.ntmps18
    go_wp2
    go_ret
    exact ⟨ret_b (by simp [h]), rfl⟩
  · have q : ¬ (40 : Int) < (n : Int) := by omega
    go_enter Try.func18, Try.ntmps18
    go_wp2
    go_ret
    exact ⟨ret_b (by simp), rfl⟩
set_option maxRecDepth 100000 in
theorem long_c (Z : Int) (A : Option Addr) (n c : Nat) (w : World) : Calls Try.prog 17 #[trapV Z A n c] w fun e w' => e = .returned (.bool (decide (60 < n))) ∧ Below w.heap.size w w' := by
  have x0 := Bx.new w 24 #[.int .i64 Z, .slice A n c]
  have hb0 := bl_alloc (Below.refl w.heap.size w) (.cells #[.int .i64 Z, .slice A n c] 24)
  generalize hw0 : w.alloc (.cells #[.int .i64 Z, .slice A n c] 24) = w0 at *
  obtain ⟨c0, c1, _⟩ := x0.two
  by_cases h : 60 < n
  · have q : (60 : Int) < (n : Int) := by omega
    go_enter Try.func17, Try.ntmps17
    go_wp2_with (fail)
    go_ret
    exact ⟨ret_b (by simp [h]), hb0⟩
  · have q : ¬ (60 : Int) < (n : Int) := by omega
    go_enter Try.func17, Try.ntmps17
    go_wp2_with (fail)
    go_ret
    exact ⟨ret_b (by simp), hb0⟩
def lineL : List (Int × Int) := [(0, 1), (1, 2)]
set_option maxRecDepth 100000 in
theorem line_c (w : World) : Calls Try.prog 59 #[] w fun e w' => ∃ g, e = .returned (trapV 3 (some ⟨g, 0, none⟩) 2 2) ∧ Rd w' (some ⟨g, 0, none⟩) (cellsP lineL) ∧ Below w.heap.size w w' := by
  have yF : Bx ((w.alloc (.cells #[.int .i64 3, .slice (some ⟨w.heap.size + 1, 0, none⟩) 2 2] 24)).alloc (.cells #[.int .i64 0, .int .i64 1, .int .i64 1, .int .i64 2] 69)) w.heap.size 24 #[.int .i64 3, .slice (some ⟨w.heap.size + 1, 0, none⟩) 2 2] := (Bx.new w _ _).alloc _
  have yL : Bx ((w.alloc (.cells #[.int .i64 3, .slice (some ⟨w.heap.size + 1, 0, none⟩) 2 2] 24)).alloc (.cells #[.int .i64 0, .int .i64 1, .int .i64 1, .int .i64 2] 69)) (w.heap.size + 1) 69 #[.int .i64 0, .int .i64 1, .int .i64 1, .int .i64 2] := Bx.newAt (by simp)
  have bF := bl_alloc (bl_alloc (Below.refl w.heap.size w) (.cells #[.int .i64 3, .slice (some ⟨w.heap.size + 1, 0, none⟩) 2 2] 24)) (.cells #[.int .i64 0, .int .i64 1, .int .i64 1, .int .i64 2] 69)
  go_enter Try.func59, Try.ntmps59
  go_wp2_with (fail)
  refine bodyPost_ret (results_cell_row rfl _ _ w.heap.size 24 _ (0, 0) _ rfl yF Try.underlying24 rfl (by kernel_rfl)) rfl ?_
  exact ⟨w.heap.size + 1, rfl, Bx.rd yL, bF⟩
end Go.Proofs.Ytjgpfnnokdcgoaa
