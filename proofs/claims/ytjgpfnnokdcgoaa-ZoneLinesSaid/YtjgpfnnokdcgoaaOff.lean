/- A row of pointers that is read from its front and appended to at its end. -/
import Derived.Test.YtjgpfnnokdcgoaaPlace
namespace Go.Proofs.Ytjgpfnnokdcgoaa
open Go.RowKit Go.Maps

/-- v is a slice of one-cell values of the call's own, from some place of its block on. -/
def OffR (w : World) (base : Nat) (e : TypeId) (v : Value) (xs : List Value) : Prop :=
  ∃ g o cap cur, v = .slice (some ⟨g, o, none⟩) xs.length cap ∧ base ≤ g ∧ w.heap[g]? = some (.cells cur e (0, 0)) ∧ o + cap ≤ cur.size ∧ xs.length ≤ cap ∧ cap ≤ maxLen ∧ ∀ j u, xs[j]? = some u → cur[o + j]? = some u
theorem OffR.lt {w : World} {base : Nat} {e : TypeId} {v : Value} {xs : List Value} (h : OffR w base e v xs) : ∃ g o cap, v = .slice (some ⟨g, o, none⟩) xs.length cap ∧ base ≤ g ∧ g < w.heap.size ∧ xs.length ≤ cap := by
  obtain ⟨g, o, cap, cur, h1, h2, h3, _, h5, _⟩ := h
  exact ⟨g, o, cap, h1, h2, (Array.getElem?_eq_some_iff.1 h3).1, h5⟩
theorem OffR.kept {w w' : World} {base : Nat} {e : TypeId} {v : Value} {xs : List Value} (h : OffR w base e v xs) (hk : ∀ g cs, base ≤ g → Bx w g e cs → Bx w' g e cs) : OffR w' base e v xs := by
  obtain ⟨g, o, cap, cur, h1, h2, h3, h4⟩ := h
  exact ⟨g, o, cap, cur, h1, h2, hk g cur h2 h3, h4⟩
theorem OffR.call {w w' : World} {base : Nat} {e : TypeId} {v : Value} {xs : List Value} (h : OffR w base e v xs) (hb : Below w.heap.size w w') : OffR w' base e v xs :=
  h.kept fun _ _ _ hx => hx.call hb
theorem OffR.cell {w : World} {base g o cap j : Nat} {e : TypeId} {xs : List Value} {u : Value} (h : OffR w base e (.slice (some ⟨g, o, none⟩) xs.length cap) xs) (hj : xs[j]? = some u) : w.cell? ⟨g, o + j, none⟩ = some u := by
  obtain ⟨g', o', cap', cur, h1, _, h3, _, _, _, h6⟩ := h
  injection h1 with e1 _ _
  injection e1 with e1
  injection e1 with e1 e2
  subst e1 e2
  exact (Bx.cell h3 (o + j)).trans (h6 j u hj)
/-- Its tail. -/
theorem OffR.tail {w : World} {base g o cap : Nat} {e : TypeId} {x : Value} {xs : List Value} (h : OffR w base e (.slice (some ⟨g, o, none⟩) (x :: xs).length cap) (x :: xs)) :
    OffR w base e (.slice (if cap = 1 then some ⟨g, o, none⟩ else some ⟨g, o + 1, none⟩) xs.length (cap - 1)) xs := by
  obtain ⟨g', o', cap', cur, h1, h2, h3, h4, h5, hm, h6⟩ := h
  injection h1 with e1 _ e3
  injection e1 with e1
  injection e1 with e1 e2
  subst e1 e2 e3
  simp only [List.length_cons] at h5
  by_cases hc : cap = 1
  · rw [if_pos hc]
    have : xs = [] := List.eq_nil_of_length_eq_zero (by omega)
    subst this
    exact ⟨g, o, cap - 1, cur, rfl, h2, h3, by omega, by simp, by omega, fun j u hj => by simp at hj⟩
  · rw [if_neg hc]
    exact ⟨g, o + 1, cap - 1, cur, rfl, h2, h3, by omega, by omega, by omega, fun j u hj => by
      have := h6 (j + 1) u (by simpa using hj)
      rwa [Nat.add_assoc, Nat.add_comm 1 j]⟩
theorem OffR.made (w : World) (base : Nat) (e : TypeId) (x : Value) (hb : base ≤ w.heap.size) : OffR (w.alloc (.cells #[x] e)) base e (.slice (some ⟨w.heap.size, 0, none⟩) 1 1) [x] :=
  ⟨w.heap.size, 0, 1, #[x], rfl, hb, Bx.new w e _, by simp, by simp, by unfold maxLen; omega, fun j u hj => by
    match j, hj with
    | 0, hj => simpa using hj⟩

set_option maxRecDepth 100000 in
/-- append of one pointer. -/
theorem OffR.append {w : World} {base : Nat} {v : Value} {xs : List Value} {s : Nat} {x : Value} (h : OffR w base 89 v xs) (hs : Bx w s 89 #[x]) (hx : x.oneCell' = true) (hlen : xs.length ≤ 100000) (hb : base ≤ w.heap.size) :
    ∃ v' w', (∀ ty, (Builtin.append_ #[116, 116] ty #[v, .slice (some ⟨s, 0, none⟩) 1 1]).run Try.prog w = .ok v' w') ∧ OffR w' base 89 v' (xs ++ [x]) ∧ Below base w w' ∧ w.heap.size ≤ w'.heap.size ∧ (∀ k, k < w.heap.size → (∀ cs, w.heap[k]? ≠ some (.cells cs 89 (0, 0))) → w'.heap[k]? = w.heap[k]?) := by
  have hinf : (Try.prog.info? 89).map (fun i => (i.zero, i.size, i.bytes)) = some (some (.pointer none), 1, 8) := by kernel_rfl
  obtain ⟨i0, hi, hz0, hz1, hz2⟩ := info_parts hinf
  obtain ⟨g, o, cap, cur, rfl, h2, h3, h4, h5, hm, h6⟩ := h
  have hsrc : ∀ w1 : World, Bx w1 s 89 #[x] → (Builtin.firstCells i0.size 1 (.slice (some ⟨s, 0, none⟩) 1 1)).run Try.prog w1 = .ok [x].toArray w1 := fun w1 h1 =>
    run_firstCells_some (P := Try.prog) w1 i0.size 1 ⟨s, 0, none⟩ 1 1 [x] (by rw [hz1]; rfl) (fun j u hj => by
      have hadd : (⟨s, 0, none⟩ : Addr).add j = ⟨s, j, none⟩ := by unfold Addr.add; split <;> simp_all
      rw [hadd, Bx.cell h1 j]; simpa using hj)
  have hS : Src Try.prog i0.size 116 (.slice (some ⟨s, 0, none⟩) 1 1) 1 [x] w := ⟨.inl ⟨_, Try.underlying116⟩, fun _ => rfl, hsrc w hs, hsrc w.drew hs, by rw [hz1]; rfl, fun u hu => by rw [List.mem_singleton.1 hu]; exact hx⟩
  by_cases hroom : xs.length + 1 ≤ cap
  · have hrun := fun ty => run_append_room_src (P := Try.prog) (w := w) 116 116 ty 89 i0 Try.underlying116 hi g o xs.length cap _ 1 [x] hS hroom
      (fun j hj => by
        have : j = 0 := by simpa using hj
        subst this
        rw [hz1, Nat.add_zero, Nat.mul_one, Bx.cell h3 (o + xs.length)]
        rw [Array.getElem?_eq_getElem (by omega)]; rfl)
      (fun j hj => Bx.free h3 _)
    rw [hz1, Nat.mul_one] at hrun
    have hx3 : Bx w g 89 cur := h3
    refine ⟨_, w.setCell ⟨g, o + xs.length, none⟩ x, hrun, ⟨g, o, cap, _, by simp, h2, hx3.set (o + xs.length) x, by simpa using h4, by simpa using hroom, hm, fun j u hj => ?_⟩, (Below.refl _ _).setCell (p := ⟨g, o + xs.length, none⟩) h2 _, by simp, fun k hkl hk => ?_⟩
    · rcases Nat.lt_or_ge j xs.length with hlt | hge
      · rw [List.getElem?_append_left hlt] at hj
        rw [Array.getElem?_setIfInBounds_ne (by omega)]; exact h6 j u hj
      · rw [List.getElem?_append_right hge] at hj
        have hj0 : j - xs.length = 0 := by
          rcases Nat.eq_zero_or_pos (j - xs.length) with h | h
          · exact h
          · rw [List.getElem?_eq_none (by simp; omega)] at hj; cases hj
        rw [hj0] at hj
        have hju : x = u := by simpa using hj
        subst hju
        have hje : j = xs.length := by omega
        subst hje
        rw [Array.getElem?_setIfInBounds_self_of_lt (by omega)]
    · have hne : k ≠ g := by rintro rfl; exact hk _ h3
      exact Below.heap_setCell w ⟨g, o + xs.length, none⟩ x k hne
  · have hce : cap = xs.length := by omega
    have hold : (Builtin.firstCells i0.size xs.length (.slice (some ⟨g, o, none⟩) xs.length cap)).run Try.prog w.drew = .ok xs.toArray w.drew :=
      run_firstCells_some (P := Try.prog) w.drew i0.size xs.length ⟨g, o, none⟩ xs.length cap xs (by rw [hz1, Nat.mul_one]) (fun j u hj => by
        have hadd : (⟨g, o, none⟩ : Addr).add j = ⟨g, o + j, none⟩ := by unfold Addr.add; split <;> simp_all
        rw [hadd]; exact (Bx.cell (Bx.drew h3) (o + j)).trans (h6 j u hj))
    have hgr := grownCap_ge w (xs.length + 1) cap 89
    have hgm := grownCap_le_maxLen w (xs.length + 1) cap 89 (by unfold maxLen; omega)
    have hrun := fun ty => run_append_grow_src (P := Try.prog) (w := w) 116 116 ty 89 i0 _ Try.underlying116 hi hz0 (some ⟨g, o, none⟩) xs.length cap xs hold _ 1 [x] hS (by omega) (by omega) (growslice_fits (by omega) (by rw [hz2]; omega))
    refine ⟨_, _, hrun, ⟨w.heap.size, 0, _, _, by simp, hb, Bx.new w.drew _ _, ?_, by simpa using hgr, hgm, fun j u hj => ?_⟩, ((Below.refl base w).drew).alloc hb _, by simp, fun k hkl _ => Below.heap_alloc w.drew _ k hkl⟩
    · have h1 : (Value.pointer none).cells.size = 1 := rfl
      simp only [Nat.zero_add, Array.size_append, size_zeroCells, h1, List.size_toArray, List.length_append, List.length_cons, List.length_nil]
      omega
    · have hlt : j < (xs ++ [x]).length := (List.getElem?_eq_some_iff.1 hj).1
      rw [Nat.zero_add, Array.getElem?_append_left (by simpa using hlt)]
      simpa using hj
end Go.Proofs.Ytjgpfnnokdcgoaa
