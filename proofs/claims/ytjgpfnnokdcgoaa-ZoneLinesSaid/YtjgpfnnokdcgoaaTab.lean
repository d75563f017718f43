/- Tables of rows of numbers: one row is written, and others are not. -/
import Derived.Test.YtjgpfnnokdcgoaaRnear
import Derived.Maps.AppendAt
import Derived.BigRegion
namespace Go.Proofs.Ytjgpfnnokdcgoaa
open Go.RowKit

section
variable {w w' : World} {base base' e e' size size' n n' : Nat} {v v' : Value} {xs xs' : List Value}
/-- Rows of different types lie in different blocks. -/
theorem own_apart (h : w.ownsRow base e size v n xs) (h' : w.ownsRow base' e' size' v' n' xs') (hne : e ≠ e') : ∀ k, v.ownBlock = some k → v'.ownBlock ≠ some k := by
  intro k hk hk'
  rcases h.2 with ⟨rfl, _⟩ | ⟨g, cap, cur, rfl, _, hg, _⟩
  · cases hk
  · rcases h'.2 with ⟨rfl, _⟩ | ⟨g', cap', cur', rfl, _, hg', _⟩
    · cases hk'
    · cases hk; cases hk'
      have hg1 : w.heap[g]? = some (.cells cur e (0, 0)) := hg
      have hg2 : w.heap[g]? = some (.cells cur' e' (0, 0)) := hg'
      rw [hg1] at hg2
      injection hg2 with h1
      injection h1 with _ h2
      exact hne h2
theorem own_put {g c p : Nat} (h : w.ownsRow base e size (.slice (some ⟨g, 0, none⟩) n c) n xs) (u : Value) : (w.setCell ⟨g, p, none⟩ u).ownsRow base e size (.slice (some ⟨g, 0, none⟩) n c) n (xs.set p u) := by
  rcases h.2 with ⟨h0, _⟩ | ⟨g', cap, cur, hv, hb, hg, hn, hm, hs, ht⟩
  · cases h0
  · injection hv with e1 _ e2
    injection e1 with e1
    injection e1 with e1
    subst e1 e2
    refine ⟨by simpa using h.1, .inr ⟨g, c, cur.setIfInBounds p u, rfl, hb, ?_, hn, hm, by simpa using hs, ?_⟩⟩
    · rw [setCell_eq_setRow w g p cur e (0, 0) u hg]; exact setRow_heap w g cur _ e _ hg
    · rw [← ht, Array.toList_setIfInBounds, List.take_set]
/-- The cells of a row that is not empty. -/
theorem own_cell {A : Option Addr} {c : Nat} (h : w.ownsRow base e size (.slice A n c) n xs) (h0 : 0 < n) : ∃ g, A = some ⟨g, 0, none⟩ ∧ base ≤ g ∧ g < w.heap.size ∧ (∀ k, w.frozen? ⟨g, k, none⟩ = false) ∧ ∀ k u, xs[k]? = some u → w.cell? ⟨g, k, none⟩ = some u := by
  rcases h.2 with ⟨hv, hx⟩ | ⟨g, cap, cur, hv, hb, hg, hn, hm, hs, ht⟩
  · injection hv with _ h1 _; omega
  · injection hv with e1 _ e2
    subst e1 e2
    refine ⟨g, rfl, hb, (Array.getElem?_eq_some_iff.1 hg).1, fun k => by simp [World.frozen?, hg], fun k u hu => ?_⟩
    have := h.cells (g := g) rfl k u hu
    have e1 : (⟨g, 0, none⟩ : Addr).add k = ⟨g, k, none⟩ := by unfold Addr.add; split <;> simp_all
    rwa [e1] at this
end

/-- hs are slices that read as the lists ls, each of them a row of its own from base on, and no two of them in one block. -/
def TabI (w : World) (base : Nat) (hs : List Value) (ls : List (List Int)) : Prop :=
  hs.length = ls.length ∧ (∀ k, k < ls.length → ∃ A c, hs[k]? = some (.slice A (ls.getD k []).length c) ∧ w.ownsRow base 3 1 (.slice A (ls.getD k []).length c) (ls.getD k []).length (ints (ls.getD k []))) ∧
    ∀ (j k : Nat) (u v : Value), j ≠ k → hs[j]? = some u → hs[k]? = some v → ∀ b, u.ownBlock = some b → v.ownBlock ≠ some b
section
variable {w w' : World} {base base' : Nat} {hs : List Value} {ls : List (List Int)}
theorem TabI.nil (w : World) (base : Nat) : TabI w base [] [] := ⟨rfl, fun k h => by simp at h, fun j k u v _ h => by simp at h⟩
theorem TabI.lower (h : TabI w base hs ls) (hb : base' ≤ base) : TabI w base' hs ls :=
  ⟨h.1, fun k hk => by obtain ⟨A, c, h1, h2⟩ := h.2.1 k hk; exact ⟨A, c, h1, own_base h2 hb⟩, h.2.2⟩
theorem TabI.call (h : TabI w base hs ls) (hb : Below w.heap.size w w') : TabI w' base hs ls :=
  ⟨h.1, fun k hk => by obtain ⟨A, c, h1, h2⟩ := h.2.1 k hk; exact ⟨A, c, h1, own_call h2 hb⟩, h.2.2⟩
/-- A row of another type may be written. -/
theorem TabI.grown (h : TabI w base hs ls) {e b n : Nat} {v : Value} {xs : List Value} (ho : w.ownsRow b e 1 v n xs) (hne : 3 ≠ e) (hg : w.grownBy w' v.ownBlock) : TabI w' base hs ls :=
  ⟨h.1, fun k hk => by
    obtain ⟨A, c, h1, h2⟩ := h.2.1 k hk
    refine ⟨A, c, h1, h2.kept hg ?_⟩
    cases hA : (Value.slice A (ls.getD k []).length c).ownBlock with
    | none => exact .inl rfl
    | some j => exact .inr (fun e => own_apart h2 ho hne j hA e.symm), h.2.2⟩
theorem TabI.cell (h : TabI w base hs ls) {g n c b : Nat} {xs : List Value} (ho : w.ownsRow b 25 1 (.slice (some ⟨g, 0, none⟩) n c) n xs) (p : Nat) (u : Value) : TabI (w.setCell ⟨g, p, none⟩ u) base hs ls :=
  ⟨h.1, fun k hk => by
    obtain ⟨A, c', h1, h2⟩ := h.2.1 k hk
    exact ⟨A, c', h1, ownsRow_setCell_other (a := ⟨g, p, none⟩) h2 (fun e => own_apart h2 ho (by decide) _ e rfl) u⟩, h.2.2⟩
/-- An empty list behind them. -/
theorem TabI.empty (h : TabI w base hs ls) : TabI w base (hs ++ [.slice none 0 0]) (ls ++ [[]]) := by
  have hlast : ∀ (k : Nat) (u : Value), (hs ++ [Value.slice none 0 0])[k]? = some u → (∃ b, u.ownBlock = some b) → hs[k]? = some u := by
    intro k u hk hb
    rcases Nat.lt_or_ge k hs.length with hlt | hge
    · rwa [List.getElem?_append_left hlt] at hk
    · rw [List.getElem?_append_right hge] at hk
      cases hj : k - hs.length with
      | zero => rw [hj] at hk; simp at hk; subst hk; obtain ⟨b, hb⟩ := hb; cases hb
      | succ m => rw [hj] at hk; simp at hk
  refine ⟨by simp [h.1], fun k hk => ?_, fun j k u v hjk hj hk b hu hv => ?_⟩
  · rcases Nat.lt_or_ge k ls.length with hlt | hge
    · obtain ⟨A', c', h1, h2⟩ := h.2.1 k hlt
      have e : (ls ++ [[]]).getD k [] = ls.getD k [] := by simp [hlt, List.getElem?_append_left hlt]
      rw [e]
      exact ⟨A', c', by rw [List.getElem?_append_left (by rw [h.1]; exact hlt)]; exact h1, h2⟩
    · have hk' : k = ls.length := by simp at hk; omega
      subst hk'
      have e : (ls ++ [[]]).getD ls.length [] = ([] : List Int) := by simp
      rw [e]
      exact ⟨none, 0, by rw [List.getElem?_append_right (by rw [h.1]; exact Nat.le_refl _), h.1]; simp, World.ownsRow_nil _ _ _ _⟩
  · exact h.2.2 j k u v hjk (hlast j u hj ⟨b, hu⟩) (hlast k v hk ⟨b, hv⟩) b hu hv
/-- One of them is written, and others are not. -/
theorem TabI.put (h : TabI w base hs ls) {k : Nat} {v v' : Value} {l' : List Int} (hk : k < ls.length) (hv : hs[k]? = some v) (hg : w.grownBy w' v.ownBlock)
    (ho : w'.ownsRow base 3 1 v' l'.length (ints l')) (hat : v'.ownBlock = v.ownBlock ∨ v'.ownBlock = some w.heap.size) : TabI w' base (hs.set k v') (ls.set k l') := by
  have old : ∀ j u, j ≠ k → hs[j]? = some u → (u.ownBlock = none ∨ u.ownBlock ≠ v.ownBlock) ∧ ∀ b, u.ownBlock = some b → b < w.heap.size := by
    intro j u hjk hj
    have hjl : j < ls.length := by rw [← h.1]; exact (List.getElem?_eq_some_iff.1 hj).1
    obtain ⟨A, c, h1, h2⟩ := h.2.1 j hjl
    rw [hj] at h1
    cases h1
    refine ⟨?_, fun b hb => (h2.lt b hb).2⟩
    cases hA : (Value.slice A (ls.getD j []).length c).ownBlock with
    | none => exact .inl rfl
    | some b => exact .inr (fun e => h.2.2 j k _ _ hjk hj hv b hA e.symm)
  have apart : ∀ j u, j ≠ k → hs[j]? = some u → ∀ b, u.ownBlock = some b → v'.ownBlock ≠ some b := by
    intro j u hjk hj b hb e
    obtain ⟨h1, h2⟩ := old j u hjk hj
    rcases hat with h3 | h3
    · rw [h3] at e
      rcases h1 with h1 | h1
      · rw [h1] at hb; cases hb
      · exact h1 (hb.trans e.symm)
    · rw [h3] at e; cases e
      exact absurd (h2 _ hb) (by omega)
  refine ⟨by simp [h.1], fun j hj => ?_, fun i j u x hij hi hj b hb => ?_⟩
  · have hj' : j < ls.length := by simpa using hj
    by_cases e : j = k
    · subst e
      obtain ⟨A', c', rfl⟩ := own_form ho
      have e1 : (ls.set j l').getD j [] = l' := by simp [hj']
      rw [e1]
      exact ⟨A', c', by simp [h.1, hj'], ho⟩
    · obtain ⟨A, c, h1, h2⟩ := h.2.1 j hj'
      have e1 : (ls.set k l').getD j [] = ls.getD j [] := by simp [List.getElem?_set_ne (Ne.symm e)]
      rw [e1]
      exact ⟨A, c, by rw [List.getElem?_set_ne (Ne.symm e)]; exact h1, h2.kept hg (old j _ e h1).1⟩
  · by_cases ei : i = k
    · subst ei
      rw [List.getElem?_set_ne hij] at hj
      rw [List.getElem?_set_self (by rw [h.1]; exact hk)] at hi
      cases hi
      intro e
      exact apart j x (Ne.symm hij) hj b e hb
    · rw [List.getElem?_set_ne (Ne.symm ei)] at hi
      by_cases ej : j = k
      · subst ej
        rw [List.getElem?_set_self (by rw [h.1]; exact hk)] at hj
        cases hj
        exact apart i u ei hi b hb
      · rw [List.getElem?_set_ne (Ne.symm ej)] at hj
        exact h.2.2 i j u x hij hi hj b hb
end
end Go.Proofs.Ytjgpfnnokdcgoaa
