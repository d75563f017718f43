/- Jobs changed one by one: package clock's Turn, Shift, Relax. -/
import Derived.Test.YtiffgaelndajpaaRow
import Derived.Test.YtiffgaelndajpaaChgM
namespace Go.Proofs.Ytiffgaelndajpaa
open Go.RowKit

theorem cellsT_set3 : ∀ (M : List T3) (k : Nat) (x : T3), k < M.length → (((cellsT M).set (k * 3) (.int .i64 x.1)).set (k * 3 + 1) (.int .i64 x.2.1)).set (k * 3 + 2) (.int .i64 x.2.2) = cellsT (M.set k x)
  | [], k, x, h => by simp at h
  | a :: t, 0, x, _ => rfl
  | a :: t, k + 1, x, h => by
    have ih := cellsT_set3 t k x (by simpa using h)
    have e : (k + 1) * 3 = k * 3 + 1 + 1 + 1 := by omega
    rw [e]
    show Value.int .i64 a.1 :: .int .i64 a.2.1 :: .int .i64 a.2.2 :: ((((cellsT t).set (k * 3) _).set (k * 3 + 1) _).set (k * 3 + 2) _) = _
    rw [ih]
    rfl
theorem own_put3 {w : World} {base c n g : Nat} {T : TypeId} {M : List T3} (h : w.ownsRow base T 3 (.slice (some ⟨g, 0, none⟩) n c) n (cellsT M)) {i : Nat} (hi : i < M.length) (x : T3) :
    (((w.setCell ⟨g, i * 3, none⟩ (.int .i64 x.1)).setCell ⟨g, i * 3 + 1, none⟩ (.int .i64 x.2.1)).setCell ⟨g, i * 3 + 2, none⟩ (.int .i64 x.2.2)).ownsRow base T 3 (.slice (some ⟨g, 0, none⟩) n c) n (cellsT (M.set i x)) := by
  rw [← cellsT_set3 M i x hi]
  exact (((h.stored _ _).1.stored _ _).1.stored _ _).1

theorem turn1_c (f b n : Int) (w : World) (h0 : 0 ≤ f) (h1 : f < b) (h2 : b ≤ 60) : Calls Try.prog 72 #[.agg #[.int .i64 f, .int .i64 b, .int .i64 n]] w fun e w' => e = .returned (.agg #[.int .i64 (60 - b), .int .i64 (60 - f), .int .i64 n]) ∧ Below w.heap.size w w' := by
  have hb0 := bl_alloc (bl_alloc (Below.refl w.heap.size w) (.cells #[.int .i64 f, .int .i64 b, .int .i64 n] 40)) (.cells #[.int .i64 (60 - b), .int .i64 (60 - f), .int .i64 n] 40)
  have hx : Bx ((w.alloc (.cells #[.int .i64 f, .int .i64 b, .int .i64 n] 40)).alloc (.cells #[.int .i64 (60 - b), .int .i64 (60 - f), .int .i64 n] 40)) (w.heap.size + 1) 40 #[.int .i64 (60 - b), .int .i64 (60 - f), .int .i64 n] := Bx.newAt (by simp)
  go_enter Try.func72, Try.ntmps72
  go_wp2
  refine bodyPost_ret (results_cell_row rfl _ _ (w.heap.size + 1) 40 _ (0, 0) _ rfl hx Try.underlying40 rfl (by kernel_rfl)) rfl ?_
  exact ⟨rfl, hb0⟩
def shJ (by_ : Int) (j : T3) : T3 := (wrap64 (j.1 + by_), wrap64 (j.2.1 + by_), j.2.2)
def rlJ (by_ : Int) (j : T3) : T3 := (j.1, wrap64 (j.2.1 + by_), j.2.2)
theorem shift1_c (B : Nat) (by_ f b n : Int) (w : World) (hB : w.cell? ⟨B, 0, none⟩ = some (.int .i64 by_)) : Calls Try.prog 73 #[.agg #[.int .i64 f, .int .i64 b, .int .i64 n], .pointer (some ⟨B, 0, none⟩)] w fun e w' => e = .returned (.agg #[.int .i64 (wrap64 (f + by_)), .int .i64 (wrap64 (b + by_)), .int .i64 n]) ∧ Below w.heap.size w w' := by
  have hb0 := bl_alloc (bl_alloc (Below.refl w.heap.size w) (.cells #[.int .i64 f, .int .i64 b, .int .i64 n] 40)) (.cells #[.int .i64 (wrap64 (f + by_)), .int .i64 (wrap64 (b + by_)), .int .i64 n] 40)
  have hx : Bx ((w.alloc (.cells #[.int .i64 f, .int .i64 b, .int .i64 n] 40)).alloc (.cells #[.int .i64 (wrap64 (f + by_)), .int .i64 (wrap64 (b + by_)), .int .i64 n] 40)) (w.heap.size + 1) 40 #[.int .i64 (wrap64 (f + by_)), .int .i64 (wrap64 (b + by_)), .int .i64 n] := Bx.newAt (by simp)
  have hlt := World.block_lt_of_cell? w ⟨B, 0, none⟩ hB
  have hB2 : ((w.alloc (.cells #[.int .i64 f, .int .i64 b, .int .i64 n] 40)).alloc (.cells #[.int .i64 0, .int .i64 0, .int .i64 0] 40)).cell? ⟨B, 0, none⟩ = some (.int .i64 by_) := ((bl_alloc (bl_alloc (Below.refl w.heap.size w) _) _).cell (p := ⟨B, 0, none⟩) hlt).trans hB
  go_enter Try.func73, Try.ntmps73
  go_wp2
  refine bodyPost_ret (results_cell_row rfl _ _ (w.heap.size + 1) 40 _ (0, 0) _ rfl hx Try.underlying40 rfl (by kernel_rfl)) rfl ?_
  exact ⟨rfl, hb0⟩
theorem relax1_c (B : Nat) (by_ f b n : Int) (w : World) (hB : w.cell? ⟨B, 0, none⟩ = some (.int .i64 by_)) : Calls Try.prog 75 #[.agg #[.int .i64 f, .int .i64 b, .int .i64 n], .pointer (some ⟨B, 0, none⟩)] w fun e w' => e = .returned (.agg #[.int .i64 f, .int .i64 (wrap64 (b + by_)), .int .i64 n]) ∧ Below w.heap.size w w' := by
  have hb0 := bl_alloc (bl_alloc (Below.refl w.heap.size w) (.cells #[.int .i64 f, .int .i64 b, .int .i64 n] 40)) (.cells #[.int .i64 f, .int .i64 (wrap64 (b + by_)), .int .i64 n] 40)
  have hx : Bx ((w.alloc (.cells #[.int .i64 f, .int .i64 b, .int .i64 n] 40)).alloc (.cells #[.int .i64 f, .int .i64 (wrap64 (b + by_)), .int .i64 n] 40)) (w.heap.size + 1) 40 #[.int .i64 f, .int .i64 (wrap64 (b + by_)), .int .i64 n] := Bx.newAt (by simp)
  have hlt := World.block_lt_of_cell? w ⟨B, 0, none⟩ hB
  go_enter Try.func75, Try.ntmps75
  go_wp2
  refine bodyPost_ret (results_cell_row rfl _ _ (w.heap.size + 1) 40 _ (0, 0) _ rfl hx Try.underlying40 rfl (by kernel_rfl)) rfl ?_
  exact ⟨rfl, hb0⟩
end Go.Proofs.Ytiffgaelndajpaa
