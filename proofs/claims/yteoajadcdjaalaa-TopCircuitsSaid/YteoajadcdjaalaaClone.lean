/- slices.Clone at gates: the same gates in new memory. -/
import Derived.Test.YteoajadcdjaalaaAppG
import Derived.Lib.SliceRun
namespace Go.Proofs.Yteoajadcdjaalaa
open Go.RowKit

theorem gate_info : (Try.prog.info? 23).map (fun i => (i.zero, i.size, i.bytes)) = some (some (.agg #[.int .i64 0, .int .i64 0, .int .i64 0, .int .i64 0]), 4, 32) := by kernel_rfl

set_option maxRecDepth 100000 in
theorem clone_c (A : Option Addr) (l : List G) (cap : Nat) (w : World) (hlen : l.length ≤ 1000) (hr : Rd w A (cellsG l)) :
    Calls Try.prog 79 #[.slice A l.length cap] w fun e w' => ∃ A' c', e = .returned (.slice A' l.length c') ∧ w'.ownsRow w.heap.size 23 4 (.slice A' l.length c') l.length (cellsG l) ∧ Below w.heap.size w w' := by
  obtain ⟨i0, hi, hz0, hz1, hz2⟩ := info_parts gate_info
  have qT : ∀ (w : World) (a : Option Addr) (n c n' c' : Nat), (binOp .eql 29 (.slice a n c) (.slice none n' c')).run Try.prog w = .ok (.bool a.isNone) w := fun w a n c n' c' => Lib.run_eql_slice_nil w _ _ a n c n' c' Try.underlying29
  cases A with
  | none =>
    have h0 : l = [] := by
      rcases hr with h | ⟨_, _, h, _⟩
      · have := congrArg List.length h; rw [cellsG_length] at this; exact List.length_eq_zero_iff.1 (by simp at this; omega)
      · cases h
    subst h0
    go_enter Try.func79, Try.ntmps79
    go_wp2_with (fail)
    go_ret
    exact ⟨none, 0, rfl, World.ownsRow_nil _ _ _ _, Below.refl _ _⟩
  | some ad =>
    have hown := World.ownsRow_made (e := 23) (size := 4) w #[] 0 (Nat.le_refl _) (by decide) rfl
    have hb0 : Below w.heap.size w (w.alloc (.cells #[] 23)) := bl_alloc (Below.refl _ _) _
    go_enter Try.func79, Try.ntmps79
    go_wp2_with (at_builtin; refine wpList_append_any rfl _ _ 29 rfl w.heap.size 23 i0 _ 32 Try.underlying29 hi hz0 hz1 hz2 rfl _ 0 [] rfl hown (some ad) l cap rfl (hr.later hb0) (by unfold maxLen; omega) (by omega) hb0.size ?_)
    intro A' c' w2 hown2 hg2
    have hb2 : Below w.heap.size w w2 := hb0.trans (grown_below hown hg2 hb0.size)
    have hown3 : w2.ownsRow w.heap.size 23 4 (.slice A' l.length c') l.length (cellsG l) := by
      simpa using hown2
    clear hown hg2 hown2
    go_wp2_with (fail)
    go_ret
    exact ⟨A', c', by simp, hown3, hb2⟩
end Go.Proofs.Yteoajadcdjaalaa
