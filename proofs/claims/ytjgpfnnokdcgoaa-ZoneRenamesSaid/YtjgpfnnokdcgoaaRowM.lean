/- Rows of moves of the call's own: a made one, a store. -/
import Derived.Test.YtjgpfnnokdcgoaaNear3
import Derived.Laws.OwnMore
namespace Go.Proofs.Ytjgpfnnokdcgoaa
open Go.RowKit Go.Maps

theorem cellsP_set : ∀ (M : List (Int × Int)) (k : Nat) (x y : Int), cellsP (M.set k (x, y)) = ((cellsP M).set (k * 2) (.int .i64 x)).set (k * 2 + 1) (.int .i64 y)
  | [], k, x, y => by simp [cellsP]
  | a :: r, 0, x, y => rfl
  | a :: r, k + 1, x, y => by
    have ih := cellsP_set r k x y
    have e : (k + 1) * 2 = k * 2 + 1 + 1 := by omega
    show [Value.int .i64 a.1, .int .i64 a.2] ++ cellsP (r.set k (x, y)) = (([Value.int .i64 a.1, .int .i64 a.2] ++ cellsP r).set ((k + 1) * 2) _).set ((k + 1) * 2 + 1) _
    rw [ih, e]
    rfl
theorem own_putM {w : World} {base c k : Nat} {A : Option Addr} {M : List (Int × Int)} (h : w.ownsRow base 54 2 (.slice A M.length c) M.length (cellsP M)) (hk : k < M.length) (x y : Int) :
    ∃ g, A = some ⟨g, 0, none⟩ ∧ base ≤ g ∧ g < w.heap.size ∧ (w.cell? ⟨g, k * 2, none⟩ = some (.int .i64 (M.getD k (0, 0)).1) ∧ w.cell? ⟨g, k * 2 + 1, none⟩ = some (.int .i64 (M.getD k (0, 0)).2)) ∧ (w.frozen? ⟨g, k * 2, none⟩ = false ∧ w.frozen? ⟨g, k * 2 + 1, none⟩ = false) ∧
      ((w.setCell ⟨g, k * 2, none⟩ (.int .i64 x)).setCell ⟨g, k * 2 + 1, none⟩ (.int .i64 y)).ownsRow base 54 2 (.slice A M.length c) M.length (cellsP (M.set k (x, y))) := by
  have h' := h
  rcases h'.2 with ⟨he, _⟩ | ⟨g, cap, cur, hv, hb, hg, _⟩
  · simp at he; omega
  · simp only [Value.slice.injEq] at hv
    obtain ⟨rfl, _, rfl⟩ := hv
    have hgl : g < w.heap.size := (Array.getElem?_eq_some_iff.1 hg).1
    refine ⟨g, rfl, hb, hgl, ?_, ⟨h.frozenAt _, h.frozenAt _⟩, ?_⟩
    · obtain ⟨b, o, he, _, h0, h1⟩ := (own_rd h).1.pair hk
      injection he with he
      injection he with e1 e2
      subst e1 e2
      rw [Nat.zero_add] at h0 h1
      exact ⟨h0, h1⟩
    · rw [cellsP_set]
      exact ((h.stored _ _).1.stored _ _).1
theorem made_pairs (n : Nat) : (madeCells (Value.agg #[.int .i64 0, .int .i64 0]).cells (n * 2)).toList = cellsP (List.replicate n (0, 0)) := by
  apply List.ext_getElem?
  intro j
  by_cases hj : j < n * 2
  · have e : (cellsP (List.replicate n ((0 : Int), (0 : Int))))[j]? = some (.int .i64 0) := by
      obtain ⟨h0, h1⟩ := cellsP_get (List.replicate n ((0 : Int), (0 : Int))) (j / 2) (by simp; omega)
      have hz : (List.replicate n ((0 : Int), (0 : Int))).getD (j / 2) (0, 0) = (0, 0) := by
        rw [List.getD_eq_getElem?_getD, List.getElem?_replicate]; split <;> rfl
      rw [hz] at h0 h1
      rcases (by omega : j = j / 2 * 2 ∨ j = j / 2 * 2 + 1) with e | e
      · rw [← e] at h0; exact h0
      · rw [← e] at h1; exact h1
    rw [e]
    rcases (by omega : j % 2 = 0 ∨ j % 2 = 1) with e | e <;> simp [madeCells, hj, Value.cells, e]
  · rw [List.getElem?_eq_none (by simp [madeCells]; omega), List.getElem?_eq_none (by simp; omega)]
theorem made_moves (n : Nat) (hn : n ≤ 100000) (w : World) : ∃ w', (Instr.makeSlice 37 (.int .i64 n) (.int .i64 n)).run Try.prog w = .ok (.slice (some ⟨w.heap.size, 0, none⟩) n n) w' ∧
    w'.ownsRow w.heap.size 54 2 (.slice (some ⟨w.heap.size, 0, none⟩) (List.replicate n ((0 : Int), (0 : Int))).length n) (List.replicate n ((0 : Int), (0 : Int))).length (cellsP (List.replicate n (0, 0))) ∧ w.grownBy w' none := by
  obtain ⟨i0, hi, hz0, hz1, hz2⟩ := info_parts move_info
  obtain ⟨w', h1, h2, h3⟩ := run_make_full (P := Try.prog) w w.heap.size 37 54 i0 _ 2 Try.underlying37 hi hz0 hz1 .i64 .i64 n (by rw [hz2]; omega) (by unfold maxLen; omega) (Nat.le_refl _)
  rw [made_pairs] at h2
  exact ⟨w', h1, by rw [List.length_replicate]; exact h2, h3⟩
theorem set_last {α : Type} (t : Nat) (z y : α) (X : List α) : (List.replicate (t + 1) z ++ X).set t y = List.replicate t z ++ y :: X := by
  rw [List.replicate_succ', List.append_assoc, List.set_append_right _ _ (by simp)]
  simp
end Go.Proofs.Ytjgpfnnokdcgoaa
