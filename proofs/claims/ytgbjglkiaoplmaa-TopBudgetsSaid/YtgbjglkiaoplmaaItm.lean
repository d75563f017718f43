/- Lists of items in memory. -/
import Derived.Test.YtgbjglkiaoplmaaFrd
namespace Go.Proofs.Ytgbjglkiaoplmaa
open Go.RowKit

theorem item_info : (Try.prog.info? 50).map (fun i => (i.zero, i.size, i.bytes)) = some (some (.agg #[.int .i64 0, .int .i64 0, .int .i64 0]), 3, 24) := by kernel_rfl
def cellsI (l : List It) : List Value := l.flatMap fun a => [.int .i64 a.u, .int .i64 a.n, .int .i64 a.d]
def encI (a : It) : Value := .agg #[.int .i64 a.u, .int .i64 a.n, .int .i64 a.d]
@[simp] theorem cellsI_length (l : List It) : (cellsI l).length = l.length * 3 := by
  induction l with
  | nil => rfl
  | cons a t ih => simp only [cellsI, List.flatMap_cons, List.length_append, List.length_cons, List.length_nil] at ih ⊢; omega
theorem cellsI_append (l m : List It) : cellsI (l ++ m) = cellsI l ++ cellsI m := by simp [cellsI]
theorem cellsI_snoc (l : List It) (a : It) : cellsI (l ++ [a]) = cellsI l ++ [.int .i64 a.u, .int .i64 a.n, .int .i64 a.d] := by simp [cellsI]
theorem cellsI_get : ∀ (l : List It) (k : Nat), k < l.length → (cellsI l)[k * 3]? = some (.int .i64 (l.getD k it0).u) ∧ (cellsI l)[k * 3 + 1]? = some (.int .i64 (l.getD k it0).n) ∧ (cellsI l)[k * 3 + 2]? = some (.int .i64 (l.getD k it0).d)
  | a :: t, 0, _ => by simp [cellsI]
  | a :: t, k + 1, h => by
    have := cellsI_get t k (by simpa using h)
    rw [Nat.succ_mul]
    simpa [cellsI] using this
theorem cellsI_one (l : List It) : ∀ u ∈ cellsI l, u.oneCell' = true := by
  intro u hu
  simp only [cellsI, List.mem_flatMap, List.mem_cons, List.not_mem_nil, or_false] at hu; obtain ⟨_, _, rfl | rfl | rfl⟩ := hu <;> rfl
theorem cellsI_take (l : List It) (i : Nat) : (cellsI l).take (i * 3) = cellsI (l.take i) := by
  induction i generalizing l with
  | zero => simp [cellsI]
  | succ i ih =>
    cases l with
    | nil => simp [cellsI]
    | cons a t =>
      have h := ih t
      rw [Nat.succ_mul]
      simp only [cellsI, List.flatMap_cons, List.take_succ_cons] at h ⊢
      rw [← h]
      simp
theorem cellsI_drop (l : List It) (i : Nat) : (cellsI l).drop (i * 3) = cellsI (l.drop i) := by
  induction i generalizing l with
  | zero => simp [cellsI]
  | succ i ih =>
    cases l with
    | nil => simp [cellsI]
    | cons a t =>
      have h := ih t
      rw [Nat.succ_mul]
      simp only [cellsI, List.flatMap_cons, List.drop_succ_cons] at h ⊢
      rw [← h]
      simp
theorem Rd.itm {w : World} {A : Option Addr} {l : List It} (h : Rd w A (cellsI l)) {k : Nat} (hk : k < l.length) : ∃ b o, A = some ⟨b, o, none⟩ ∧ b < w.heap.size ∧
    w.cell? ⟨b, o + k * 3, none⟩ = some (.int .i64 (l.getD k it0).u) ∧ w.cell? ⟨b, o + k * 3 + 1, none⟩ = some (.int .i64 (l.getD k it0).n) ∧ w.cell? ⟨b, o + k * 3 + 2, none⟩ = some (.int .i64 (l.getD k it0).d) := by
  obtain ⟨b, o, rfl, hb, hc⟩ := h.at_ (k := k * 3) (by simp; omega)
  obtain ⟨h0, h1, h2⟩ := cellsI_get l k hk
  exact ⟨b, o, rfl, hb, hc _ _ h0, by rw [Nat.add_assoc]; exact hc _ _ h1, by rw [Nat.add_assoc]; exact hc _ _ h2⟩
theorem Rd.itms {w : World} {A : Option Addr} {l : List It} (h : Rd w A (cellsI l)) {k : Nat} (hk : k < l.length) : ∃ b o, A = some ⟨b, o, none⟩ ∧ ∀ w1, Below w.heap.size w w1 →
    w1.cell? ⟨b, o + k * 3, none⟩ = some (.int .i64 (l.getD k it0).u) ∧ w1.cell? ⟨b, o + k * 3 + 1, none⟩ = some (.int .i64 (l.getD k it0).n) ∧ w1.cell? ⟨b, o + k * 3 + 2, none⟩ = some (.int .i64 (l.getD k it0).d) := by
  obtain ⟨b, o, rfl, hb, h0, h1, h2⟩ := h.itm hk
  exact ⟨b, o, rfl, fun w1 hw => ⟨(hw.cell (p := ⟨b, o + k * 3, none⟩) hb).trans h0, (hw.cell (p := ⟨b, o + k * 3 + 1, none⟩) hb).trans h1, (hw.cell (p := ⟨b, o + k * 3 + 2, none⟩) hb).trans h2⟩⟩
theorem Rd.itm2 {w : World} {A : Option Addr} {l : List It} (h : Rd w A (cellsI l)) {k j : Nat} (hk : k < l.length) (hj : j < l.length) : ∃ b o, A = some ⟨b, o, none⟩ ∧ b < w.heap.size ∧
    (w.cell? ⟨b, o + k * 3, none⟩ = some (.int .i64 (l.getD k it0).u) ∧ w.cell? ⟨b, o + k * 3 + 1, none⟩ = some (.int .i64 (l.getD k it0).n) ∧ w.cell? ⟨b, o + k * 3 + 2, none⟩ = some (.int .i64 (l.getD k it0).d)) ∧
    w.cell? ⟨b, o + j * 3, none⟩ = some (.int .i64 (l.getD j it0).u) ∧ w.cell? ⟨b, o + j * 3 + 1, none⟩ = some (.int .i64 (l.getD j it0).n) ∧ w.cell? ⟨b, o + j * 3 + 2, none⟩ = some (.int .i64 (l.getD j it0).d) := by
  obtain ⟨b, o, rfl, hb, h0⟩ := h.itm hk
  obtain ⟨b', o', he, _, h1⟩ := h.itm hj
  injection he with he
  injection he with e1 e2
  subst e1 e2
  exact ⟨b, o, rfl, hb, h0, h1⟩
theorem Rd.taken {w : World} {A : Option Addr} {l : List It} (h : Rd w A (cellsI l)) (i : Nat) : Rd w A (cellsI (l.take i)) := by
  have h2 : Rd w A (cellsI (l.take i) ++ cellsI (l.drop i)) := by rw [← cellsI_append, List.take_append_drop]; exact h
  exact h2.head
theorem Rd.dropped {w : World} {b o : Nat} {l : List It} (h : Rd w (some ⟨b, o, none⟩) (cellsI l)) (i : Nat) : Rd w (some ⟨b, o + i * 3, none⟩) (cellsI (l.drop i)) := by
  by_cases hX : cellsI (l.drop i) = []
  · exact .inl hX
  · rcases h with h | ⟨b', o', he, hb, hc⟩
    · rw [← cellsI_drop, h] at hX; simp at hX
    · injection he with he
      injection he with e1 e2
      subst e1 e2
      refine .inr ⟨b, _, rfl, hb, fun k v hv => ?_⟩
      rw [Nat.add_assoc]
      exact hc _ _ (by rw [← cellsI_drop, List.getElem?_drop] at hv; exact hv)
theorem rd_newIt (w : World) (T : TypeId) (l : List It) : Rd (w.alloc (.cells (cellsI l).toArray T)) (some ⟨w.heap.size, 0, none⟩) (cellsI l) := Bx.rd (Bx.new w _ _)
theorem append_item (base : Nat) (t : TypeId) (T : TypeId) (hT : (Try.prog.info? T).map (fun i => (i.zero, i.size, i.bytes)) = some (some (.agg #[.int .i64 0, .int .i64 0, .int .i64 0]), 3, 24)) (ht : Try.prog.underlying t = some (.slice T)) (w : World) (v : Value) (l : List It) (a : It) (hown : w.ownsRow base T 3 v l.length (cellsI l)) (hlen : l.length ≤ 100000) (hb : base ≤ w.heap.size) :
    ∃ A' c' w', (∀ ty, (Builtin.append_ #[t, t] ty #[v, .slice (some ⟨w.heap.size, 0, none⟩) 1 1]).run Try.prog (w.alloc (.cells #[.int .i64 a.u, .int .i64 a.n, .int .i64 a.d] T)) = .ok (.slice A' (l.length + 1) c') w') ∧ w'.ownsRow base T 3 (.slice A' (l.length + 1) c') (l ++ [a]).length (cellsI (l ++ [a])) ∧ Below base w w' ∧ (∀ g T' cs, T' ≠ T → Bx w g T' cs → Bx w' g T' cs) := by
  obtain ⟨i0, hi, hz0, hz1, hz2⟩ := info_parts hT
  have hrd : Rd (w.alloc (.cells #[.int .i64 a.u, .int .i64 a.n, .int .i64 a.d] T)) (some ⟨w.heap.size, 0, none⟩) (cellsI [a]) := rd_newIt w T [a]
  have hs : base ≤ (w.alloc (.cells #[.int .i64 a.u, .int .i64 a.n, .int .i64 a.d] T)).heap.size := by rw [World.size_alloc]; omega
  obtain ⟨A', c', w2, h1, h2, h3⟩ := run_append_rows (P := Try.prog) _ base t T i0 _ 3 24 ht hi hz0 hz1 hz2 rfl (by decide) v l.length (cellsI l) (hown.alloc _) (some ⟨w.heap.size, 0, none⟩) 1 1 (cellsI [a]) rfl (cellsI_one _) hrd (by unfold maxLen; omega) (by omega) hs
  refine ⟨A', c', w2, h1, ?_, ?_, fun g T' cs hne hx => bx_grown (hown.alloc _) h3 hne (hx.alloc _)⟩
  · rw [cellsI_append, List.length_append]; exact h2
  · exact ((Below.refl base w).alloc hb _).trans (grown_below (hown.alloc _) h3 hs)

end Go.Proofs.Ytgbjglkiaoplmaa
