/- slices.Grow at a nil slice of numbers. -/
import Derived.Test.YtpjdojjdhbmbjaaScale
import Derived.Test.YtpjdojjdhbmbjaaShelf
import Derived.Shelf.Spec.SlicesGrow
namespace Go.Proofs.Ytpjdojjdhbmbjaa
open Go.RowKit Go.Shelf

theorem grow_c (n : Nat) (hn : n ≤ 24) (w : World) :
    Calls Try.prog 101 #[.slice none 0 0, .int .i64 n] w fun e w' => ∃ A' c, e = .returned (.slice A' 0 c) ∧ w'.ownsRow w.heap.size 3 1 (.slice A' 0 c) 0 [] ∧ Below w.heap.size w w' := by
  by_cases h0 : n = 0
  · subst h0
    exact (Any8.slices_Grow_room Try.growI none 0 0 0 w (by omega) (by omega) (by omega) (by omega)).mono fun e w' ⟨he, hw⟩ => ⟨none, 0, he, World.ownsRow_nil _ _ _ _, by rw [hw]; exact Below.refl _ _⟩
  · obtain ⟨i0, hi, hz0, hz1, hz2⟩ := info_parts int_info
    refine (Any8.slices_Grow_grow Try.growI i0 (.int .i64 0) hi hz0 (by omega) none 0 0 n [] w (by omega) (by omega) (by rw [hz2]; omega) (by omega) (by simp) (fun _ => rfl) (fun a e => by cases e)).mono fun e w' ⟨he, hw⟩ => ?_
    have hge := grownCap_ge w (0 + n) 0 3
    have hle := grownCap_le_maxLen w (0 + n) 0 3 (by unfold maxLen; omega)
    refine ⟨some ⟨w.heap.size, 0, none⟩, grownCap w (0 + n) 0 3, he, ?_, ?_⟩
    · have hw' : w' = w.drew.alloc (.cells (([] : List Value).toArray ++ Builtin.zeroCells (Value.int .i64 0).cells (0 + n - 0) ++ Builtin.zeroCells (Value.int .i64 0).cells (grownCap w (0 + n) 0 3 - (0 + n))) 3) := hw
      rw [hw']
      refine World.ownsRow_made (e := 3) (size := 1) w.drew _ _ (Nat.le_refl _) hle ?_
      simp only [Array.size_append, size_zeroCells, Value.cells, List.size_toArray, List.length_nil, List.length_cons]
      omega
    · rw [hw]; exact bl_alloc (Below.refl w.heap.size w).drew _
end Go.Proofs.Ytpjdojjdhbmbjaa
