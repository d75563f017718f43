/- Tables: rows of slices, each of them a row of its own. Mathematics of the list of all pulses. -/
import Derived.Test.YtpjdojjdhbmbjaaOwn
import Derived.Test.YtpjdojjdhbmbjaaPul
namespace Go.Proofs.Ytpjdojjdhbmbjaa
open Go.RowKit

theorem slice_info : (Try.prog.info? 22).map (fun i => (i.zero, i.size, i.bytes)) = some (some (.slice none 0 0), 1, 24) := by kernel_rfl

section
variable {w w' : World} {base base' e e' size size' n n' : Nat} {v v' : Value} {xs xs' : List Value}
theorem own_base (h : w.ownsRow base e size v n xs) (hb : base' ≤ base) : w.ownsRow base' e size v n xs := by
  refine ⟨h.1, ?_⟩
  rcases h.2 with h | ⟨g, cap, cur, h1, h2, h3⟩
  · exact .inl h
  · exact .inr ⟨g, cap, cur, h1, by omega, h3⟩
/-- Rows of different types lie in different blocks. -/
theorem own_ne (h : w.ownsRow base e size v n xs) (h' : w.ownsRow base' e' size' v' n' xs') (hne : e ≠ e') : ∀ k, v.ownBlock = some k → v'.ownBlock ≠ some k := by
  intro k hk hk'
  rcases h.2 with ⟨rfl, _⟩ | ⟨g, cap, cur, rfl, _, hg, _⟩
  · cases hk
  · rcases h'.2 with ⟨rfl, _⟩ | ⟨g', cap', cur', rfl, _, hg', _⟩
    · cases hk'
    · cases hk; cases hk'
      have hg1 : w.heap[g]? = some (.cells cur e (0, 0)) := hg
      have hg2 : w.heap[g]? = some (.cells cur' e' (0, 0)) := hg'
      rw [hg1] at hg2
      injection hg2 with h1
      injection h1 with _ h2
      exact hne h2
theorem own_one (hb : base ≤ w.heap.size) : (w.alloc (.cells #[v] e)).ownsRow base e 1 (.slice (some ⟨w.heap.size, 0, none⟩) 1 1) 1 [v] :=
  ⟨rfl, .inr ⟨w.heap.size, 1, #[v], rfl, hb, World.alloc_heap_new w _, Nat.le_refl _, by unfold maxLen; omega, rfl, rfl⟩⟩
end

/-- hs are slices that read as the lists ls, each of them a row of its own from base on. -/
def Tab (w : World) (base : Nat) (hs : List Value) (ls : List (List Int)) : Prop :=
  hs.length = ls.length ∧ ∀ k, k < ls.length → ∃ A c, hs[k]? = some (.slice A (ls.getD k []).length c) ∧ w.ownsRow base 3 1 (.slice A (ls.getD k []).length c) (ls.getD k []).length (ints (ls.getD k []))
section
variable {w w' : World} {base base' : Nat} {hs : List Value} {ls : List (List Int)}
theorem Tab.nil (w : World) (base : Nat) : Tab w base [] [] := ⟨rfl, fun k h => by simp at h⟩
theorem Tab.lower (h : Tab w base hs ls) (hb : base' ≤ base) : Tab w base' hs ls :=
  ⟨h.1, fun k hk => by obtain ⟨A, c, h1, h2⟩ := h.2 k hk; exact ⟨A, c, h1, own_base h2 hb⟩⟩
theorem Tab.call (h : Tab w base hs ls) (hb : Below w.heap.size w w') : Tab w' base hs ls :=
  ⟨h.1, fun k hk => by obtain ⟨A, c, h1, h2⟩ := h.2 k hk; exact ⟨A, c, h1, own_call h2 hb⟩⟩
/-- A row of another type may be written. -/
theorem Tab.grown (h : Tab w base hs ls) {e b n : Nat} {v : Value} {xs : List Value} (ho : w.ownsRow b e 1 v n xs) (hne : 3 ≠ e) (hg : w.grownBy w' v.ownBlock) : Tab w' base hs ls :=
  ⟨h.1, fun k hk => by
    obtain ⟨A, c, h1, h2⟩ := h.2 k hk
    refine ⟨A, c, h1, h2.kept hg ?_⟩
    cases hA : (Value.slice A (ls.getD k []).length c).ownBlock with
    | none => exact .inl rfl
    | some j => exact .inr (fun e => own_ne h2 ho hne j hA e.symm)⟩
theorem Tab.snoc (h : Tab w base hs ls) {A : Option Addr} {l : List Int} {c : Nat} (ho : w.ownsRow base 3 1 (.slice A l.length c) l.length (ints l)) : Tab w base (hs ++ [.slice A l.length c]) (ls ++ [l]) := by
  refine ⟨by simp [h.1], fun k hk => ?_⟩
  rcases Nat.lt_or_ge k ls.length with hlt | hge
  · obtain ⟨A', c', h1, h2⟩ := h.2 k hlt
    have e : (ls ++ [l]).getD k [] = ls.getD k [] := by simp [hlt, List.getElem?_append_left hlt]
    rw [e]
    exact ⟨A', c', by rw [List.getElem?_append_left (by rw [h.1]; exact hlt)]; exact h1, h2⟩
  · have hk' : k = ls.length := by simp at hk; omega
    subst hk'
    have e : (ls ++ [l]).getD ls.length [] = l := by simp
    rw [e]
    exact ⟨A, c, by rw [List.getElem?_append_right (by rw [h.1]; exact Nat.le_refl _), h.1]; simp, ho⟩
end

theorem pAt_row (f i k j : Nat) (h : j < 2 * f + 1) : pAt f (i + 1) (k * (2 * f + 1) + j) = pAt f i k ++ [-(f : Int) + (j : Int)] := by
  have hb : 0 < 2 * f + 1 := by omega
  have e1 : (k * (2 * f + 1) + j) / (2 * f + 1) = k := by rw [Nat.add_comm, Nat.add_mul_div_right _ _ hb, Nat.div_eq_of_lt h, Nat.zero_add]
  have e2 : (k * (2 * f + 1) + j) % (2 * f + 1) = j := by rw [Nat.add_comm, Nat.add_mul_mod_self_right, Nat.mod_eq_of_lt h]
  rw [pAt, e1, e2]
theorem pow_le {f i : Nat} (hf : f ≤ 2) (hi : i < 6) : (2 * f + 1) ^ i ≤ 3125 := by
  have h : ∀ f : Fin 3, ∀ i : Fin 6, (2 * f.val + 1) ^ i.val ≤ 3125 := by decide +kernel
  exact h ⟨f, by omega⟩ ⟨i, hi⟩
theorem pulsesL_length (f n : Nat) : (pulsesL f n).length = (2 * f + 1) ^ n := by simp [pulsesL]
theorem pulsesTo_length (f n k : Nat) : (pulsesTo f n k).length = k := by simp [pulsesTo]
theorem pulsesL_get {f n k : Nat} (h : k < (2 * f + 1) ^ n) : (pulsesL f n).getD k [] = pAt f n k := by simp [pulsesL, h]
theorem pulsesTo_all (f i : Nat) : pulsesTo f (i + 1) ((2 * f + 1) ^ i * (2 * f + 1)) = pulsesL f (i + 1) := by rw [← Nat.pow_succ]; rfl
end Go.Proofs.Ytpjdojjdhbmbjaa
