/- The smoothest course of a row of wishes: package volt's contract. -/
import Derived.Test.YtmmjdabioolodaaMak
import Derived.Test.YtmmjdabioolodaaStt
import Derived.Test.YtmmjdabioolodaaMinF
namespace Go.Proofs.Ytmmjdabioolodaa
open Go.RowKit Go.Shelf
attribute [local go_sem] Oper.semAt_some

/-- A row lies in no block of another type. -/
theorem own_bx {w : World} {base size n g : Nat} {e T : TypeId} {v : Value} {xs : List Value} {cs : Array Value} (h : w.ownsRow base e size v n xs) (hx : Bx w g T cs) (hne : T ≠ e) : v.ownBlock ≠ some g := by
  intro hk
  rcases h.2 with ⟨rfl, _⟩ | ⟨g', cap', cur', rfl, _, hg', _⟩
  · cases hk
  · have e1 : g' = g := Option.some.inj hk
    subst e1
    have h1 : w.heap[g']? = some (.cells cs T (0, 0)) := hx
    have h2 : w.heap[g']? = some (.cells cur' e (0, 0)) := hg'
    rw [h1] at h2
    injection h2 with h2
    injection h2 with _ h2
    exact hne h2
theorem own_set_bx {w : World} {base size n g i : Nat} {e T : TypeId} {v : Value} {xs : List Value} {cs : Array Value} (h : w.ownsRow base e size v n xs) (hx : Bx w g T cs) (hne : T ≠ e) (u : Value) : (w.setCell ⟨g, i, none⟩ u).ownsRow base e size v n xs :=
  own_mod (S := fun k => k = g) h ((Mod.refl (fun k => k = g) w).setCell (.inr rfl) u) (fun k hk hs => own_bx h hx hne (by rw [hk, hs]))
/-- Courses whose steps and voltages are rows of the right types. -/
structure CtO (w : World) (V : Rows) (S : Nat → Rows) (cs : List Crs) : Prop where
  top : ∀ i, i < cs.length → w.ownsRow 0 23 1 (.slice (V i).1 (cs.getD i crsD).1.length (V i).2) (cs.getD i crsD).1.length (rowsV (S i) (cs.getD i crsD).1)
  row : ∀ i k, i < cs.length → k < (cs.getD i crsD).1.length → w.ownsRow 0 3 1 (.slice (S i k).1 ((cs.getD i crsD).1.getD k []).length (S i k).2) ((cs.getD i crsD).1.getD k []).length (ints ((cs.getD i crsD).1.getD k []))
theorem CtO.call {w w' : World} {V : Rows} {S : Nat → Rows} {cs : List Crs} (h : CtO w V S cs) (hb : Below w.heap.size w w') : CtO w' V S cs := ⟨fun i hi => own_call (h.top i hi) hb, fun i k hi hk => own_call (h.row i k hi hk) hb⟩
theorem CtO.set {w : World} {V : Rows} {S : Nat → Rows} {cs : List Crs} (h : CtO w V S cs) {g i : Nat} {T : TypeId} {xs : Array Value} (hx : Bx w g T xs) (h1 : T ≠ 23) (h2 : T ≠ 3) (u : Value) : CtO (w.setCell ⟨g, i, none⟩ u) V S cs :=
  ⟨fun j hj => own_set_bx (h.top j hj) hx h1 u, fun j k hj hk => own_set_bx (h.row j k hj hk) hx h2 u⟩
theorem CtO.ct {w : World} {A : Option Addr} {V : Rows} {S : Nat → Rows} {cs : List Crs} (h : CtO w V S cs) (hr : Rd w A (cellsC V cs)) : CT w A V S cs := ⟨hr, fun i hi => ⟨(own_rd (h.top i hi)).1, fun k hk => (own_rd (h.row i k hi hk)).1⟩⟩
/-- New courses: their steps and their last voltages lie beyond e, the other voltages were there. -/
structure NewC (wr X : World) (e : Nat) (V : Rows) (S : Nat → Rows) (cs : List Crs) : Prop where
  top : ∀ i, i < cs.length → X.ownsRow e 23 1 (.slice (V i).1 (cs.getD i crsD).1.length (V i).2) (cs.getD i crsD).1.length (rowsV (S i) (cs.getD i crsD).1)
  row : ∀ i k, i < cs.length → k < (cs.getD i crsD).1.length → wr.ownsRow 0 3 1 (.slice (S i k).1 ((cs.getD i crsD).1.getD k []).length (S i k).2) ((cs.getD i crsD).1.getD k []).length (ints ((cs.getD i crsD).1.getD k [])) ∨
    X.ownsRow e 3 1 (.slice (S i k).1 ((cs.getD i crsD).1.getD k []).length (S i k).2) ((cs.getD i crsD).1.getD k []).length (ints ((cs.getD i crsD).1.getD k []))
theorem NewC.nil (wr X : World) (e : Nat) (V : Rows) (S : Nat → Rows) : NewC wr X e V S [] := ⟨fun i hi => by simp at hi, fun i k hi => by simp at hi⟩
theorem NewC.mod {wr X Y : World} {e : Nat} {V : Rows} {S : Nat → Rows} {cs : List Crs} {Z : Nat → Prop} (h : NewC wr X e V S cs) (hm : Mod Z X Y) (hZ : ∀ k, Z k → k < e) : NewC wr Y e V S cs :=
  ⟨fun i hi => own_mod (h.top i hi) hm (fun k hk hz => by have := ((h.top i hi).lt k hk).1; have := hZ k hz; omega), fun i k hi hk => (h.row i k hi hk).elim .inl fun h2 => .inr (own_mod h2 hm (fun j hj hz => by have := (h2.lt j hj).1; have := hZ j hz; omega))⟩
theorem NewC.call {wr X Y : World} {e : Nat} {V : Rows} {S : Nat → Rows} {cs : List Crs} (h : NewC wr X e V S cs) (hb : Below X.heap.size X Y) : NewC wr Y e V S cs :=
  ⟨fun i hi => own_call (h.top i hi) hb, fun i k hi hk => (h.row i k hi hk).elim .inl fun h2 => .inr (own_call h2 hb)⟩
theorem kept2 {w w' : World} {b b' e e' n n' size size' : Nat} {v v' : Value} {xs xs' : List Value} (h : w.ownsRow b e size v n xs) (ho : w.ownsRow b' e' size' v' n' xs') (hne : e ≠ e') (hg : w.grownBy w' v'.ownBlock) : w'.ownsRow b e size v n xs := by
  refine h.kept hg ?_
  cases hA : v.ownBlock with
  | none => exact .inl rfl
  | some j => exact .inr (fun e => own_ne h ho hne j hA e.symm)
theorem NewC.grown {wr X Y : World} {e b n : Nat} {V : Rows} {S : Nat → Rows} {cs : List Crs} {v : Value} {xs : List Value} (h : NewC wr X e V S cs) (ho : X.ownsRow b 92 2 v n xs) (hg : X.grownBy Y v.ownBlock) : NewC wr Y e V S cs :=
  ⟨fun i hi => kept2 (h.top i hi) ho (by decide) hg, fun i k hi hk => (h.row i k hi hk).elim .inl fun h2 => .inr (kept2 h2 ho (by decide) hg)⟩
theorem NewC.all {wr X : World} {e : Nat} {V : Rows} {S : Nat → Rows} {cs : List Crs} (h : NewC wr X e V S cs) (hb : Below wr.heap.size wr X) : CtO X V S cs :=
  ⟨fun i hi => own_base (h.top i hi) (Nat.zero_le _), fun i k hi hk => (h.row i k hi hk).elim (fun h1 => own_call h1 hb) fun h2 => own_base h2 (Nat.zero_le _)⟩
def rExt (V : Rows) (m : Nat) (a : Option Addr × Nat) : Rows := fun i => if i < m then V i else a
def tExt (S : Nat → Rows) (m : Nat) (a : Rows) : Nat → Rows := fun i => if i < m then S i else a
theorem NewC.snoc {wr X : World} {e : Nat} {V : Rows} {S : Nat → Rows} {cs : List Crs} (h : NewC wr X e V S cs) {c : Crs} {a : Option Addr × Nat} {s : Rows}
    (h1 : X.ownsRow e 23 1 (.slice a.1 c.1.length a.2) c.1.length (rowsV s c.1)) (h2 : ∀ k, k < c.1.length → wr.ownsRow 0 3 1 (.slice (s k).1 (c.1.getD k []).length (s k).2) (c.1.getD k []).length (ints (c.1.getD k [])) ∨ X.ownsRow e 3 1 (.slice (s k).1 (c.1.getD k []).length (s k).2) (c.1.getD k []).length (ints (c.1.getD k []))) :
    NewC wr X e (rExt V cs.length a) (tExt S cs.length s) (cs ++ [c]) := by
  refine ⟨fun i hi => ?_, fun i k hi hk => ?_⟩
  · rcases Nat.lt_or_ge i cs.length with h' | h'
    · have e1 : rExt V cs.length a i = V i := if_pos h'
      have e2 : tExt S cs.length s i = S i := if_pos h'
      rw [e1, e2, getD_l h']; exact h.top i h'
    · obtain rfl : i = cs.length := by simp at hi; omega
      have e1 : rExt V cs.length a cs.length = a := if_neg (by omega)
      have e2 : tExt S cs.length s cs.length = s := if_neg (by omega)
      rw [e1, e2, getD_r (Nat.le_refl _), Nat.sub_self]; exact h1
  · rcases Nat.lt_or_ge i cs.length with h' | h'
    · have e2 : tExt S cs.length s i = S i := if_pos h'
      rw [getD_l h'] at hk
      rw [e2, getD_l h']; exact h.row i k h' hk
    · obtain rfl : i = cs.length := by simp at hi; omega
      have e2 : tExt S cs.length s cs.length = s := if_neg (by omega)
      rw [getD_r (Nat.le_refl _), Nat.sub_self] at hk
      rw [e2, getD_r (Nat.le_refl _), Nat.sub_self]; exact h2 k hk
theorem cellsC_snoc (V : Rows) (cs : List Crs) (c : Crs) (a : Option Addr × Nat) : cellsC (rExt V cs.length a) (cs ++ [c]) = cellsC V cs ++ [.slice a.1 c.1.length a.2, .int .i64 c.2] := by
  unfold cellsC
  rw [List.length_append, List.length_singleton, List.range_succ, List.flatMap_append]
  have h1 : ∀ i ∈ List.range cs.length, [Value.slice (rExt V cs.length a i).1 ((cs ++ [c]).getD i crsD).1.length (rExt V cs.length a i).2, .int .i64 ((cs ++ [c]).getD i crsD).2] = [.slice (V i).1 (cs.getD i crsD).1.length (V i).2, .int .i64 (cs.getD i crsD).2] := fun i hi => by
    have hi := List.mem_range.1 hi
    have e1 : rExt V cs.length a i = V i := if_pos hi
    rw [e1, getD_l hi]
  have e2 : rExt V cs.length a cs.length = a := if_neg (by omega)
  congr 1
  · rw [List.flatMap_def, List.flatMap_def, List.map_congr_left h1]
  · simp only [List.flatMap_singleton]
    rw [e2, getD_r (Nat.le_refl _), Nat.sub_self]; rfl
theorem crs_all {g row : List (List Int)} {k : Nat} (hk : k ≤ row.length) (hr : row.length ≤ 5) (hE : ∀ i, i < k → 0 < (makersL g (row.getD i [])).length) : ∀ i, i < (crsTo g row k).length → CrsOk (wires g) ((crsTo g row k).getD i crsD) ∧ ((crsTo g row k).getD i crsD).1.length = k := by
  intro i hi
  obtain ⟨h1, _⟩ := crs_ok (g := g) (row := row) k hk
  obtain ⟨h2, h3⟩ := h1 hE ((crsTo g row k).getD i crsD) (by simp [hi])
  have hl := h2.1
  have hlk : (row.take k).length = k := by simp; omega
  rw [hlk] at hl
  refine ⟨⟨by omega, fun j hj => ?_, ?_⟩, hl⟩
  · exact (mem_makers.1 (h2.2 j (by omega))).1
  · rw [← h3]; exact ⟨jumpC_pos _, course_jump h2⟩
theorem crs_len {g row : List (List Int)} (h : wires g ≤ 3) : ∀ k, (crsTo g row k).length ≤ 343
  | 0 => by simp [crsTo]
  | k + 1 => by rw [crsTo, List.length_map]; exact makers_len g _ h
end Go.Proofs.Ytmmjdabioolodaa
