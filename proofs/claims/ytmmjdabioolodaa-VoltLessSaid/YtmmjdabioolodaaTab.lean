/- Tables in memory: as arguments, whose rows lie anywhere, and as results, each of whose rows is a row of its own. -/
import Derived.Test.YtmmjdabioolodaaLowT
import Derived.Test.YtmmjdabioolodaaVltS
namespace Go.Proofs.Ytmmjdabioolodaa
open Go.RowKit

theorem slice_info : (Try.prog.info? 23).map (fun i => (i.zero, i.size, i.bytes)) = some (some (.slice none 0 0), 1, 24) := by kernel_rfl
def Rows := Nat → Option Addr × Nat
/-- The slice that is row k. -/
def rowV (R : Rows) (ls : List (List Int)) (k : Nat) : Value := .slice (R k).1 (ls.getD k []).length (R k).2
def rowsV (R : Rows) (ls : List (List Int)) : List Value := (List.range ls.length).map (rowV R ls)
@[simp] theorem rowsV_len (R : Rows) (ls : List (List Int)) : (rowsV R ls).length = ls.length := by simp [rowsV]
theorem rowsV_get {R : Rows} {ls : List (List Int)} {k : Nat} (h : k < ls.length) : (rowsV R ls)[k]? = some (.slice (R k).1 (ls.getD k []).length (R k).2) := by simp [rowsV, h, rowV]
/-- At A begins a slice of slices that read as ls. -/
structure RT (w : World) (A : Option Addr) (R : Rows) (ls : List (List Int)) : Prop where
  top : Rd w A (rowsV R ls)
  row : ∀ k, k < ls.length → Rd w (R k).1 (ints (ls.getD k []))
section
variable {w w' : World} {A : Option Addr} {R : Rows} {ls : List (List Int)}
theorem RT.later (h : RT w A R ls) (hb : Below w.heap.size w w') : RT w' A R ls := ⟨h.top.later hb, fun k hk => (h.row k hk).later hb⟩
theorem RT.at_ (h : RT w A R ls) {k : Nat} (hk : k < ls.length) : ∃ b o, A = some ⟨b, o, none⟩ ∧ b < w.heap.size ∧ w.cell? ⟨b, o + k, none⟩ = some (.slice (R k).1 (ls.getD k []).length (R k).2) := by
  obtain ⟨b, o, rfl, hb, hc⟩ := h.top.at_ (k := k) (by simpa using hk)
  exact ⟨b, o, rfl, hb, hc k _ (rowsV_get hk)⟩
/-- .. in every later world, for every row. -/
theorem RT.all_ (h : RT w A R ls) (hl : 0 < ls.length) : ∃ b o, A = some ⟨b, o, none⟩ ∧ b < w.heap.size ∧ ∀ w1, Below w.heap.size w w1 → ∀ k, k < ls.length → w1.cell? ⟨b, o + k, none⟩ = some (.slice (R k).1 (ls.getD k []).length (R k).2) := by
  obtain ⟨b, o, rfl, hb, hc⟩ := h.top.at_ (k := 0) (by simpa using hl)
  exact ⟨b, o, rfl, hb, fun w1 hw k hk => (hw.cell (p := ⟨b, o + k, none⟩) hb).trans (hc k _ (rowsV_get hk))⟩
end
/-- A number of a list that is read, in every later world. -/
theorem Rd.num {w : World} {A : Option Addr} {l : List Int} (h : Rd w A (ints l)) (hl : 0 < l.length) : ∃ b o, A = some ⟨b, o, none⟩ ∧ b < w.heap.size ∧ ∀ w1, Below w.heap.size w w1 → ∀ k, k < l.length → w1.cell? ⟨b, o + k, none⟩ = some (.int .i64 (l.getD k 0)) := by
  obtain ⟨b, o, rfl, hb, hc⟩ := h.at_ (k := 0) (by simpa using hl)
  exact ⟨b, o, rfl, hb, fun w1 hw k hk => (hw.cell (p := ⟨b, o + k, none⟩) hb).trans (hc k _ (ints_get hk))⟩
theorem Rd.one {w : World} {A : Option Addr} {l : List Int} (h : Rd w A (ints l)) {k : Nat} (hk : k < l.length) : ∃ b o, A = some ⟨b, o, none⟩ ∧ b < w.heap.size ∧ w.cell? ⟨b, o + k, none⟩ = some (.int .i64 (l.getD k 0)) := by
  obtain ⟨b, o, rfl, hb, hc⟩ := h.at_ (k := k) (by simpa using hk)
  exact ⟨b, o, rfl, hb, hc k _ (ints_get hk)⟩

section
variable {w w' : World} {base base' e e' size size' n n' : Nat} {v v' : Value} {xs xs' : List Value}
/-- Rows of different types lie in different blocks. -/
theorem own_ne (h : w.ownsRow base e size v n xs) (h' : w.ownsRow base' e' size' v' n' xs') (hne : e ≠ e') : ∀ k, v.ownBlock = some k → v'.ownBlock ≠ some k := by
  intro k hk hk'
  rcases h.2 with ⟨rfl, _⟩ | ⟨g, cap, cur, rfl, _, hg, _⟩
  · cases hk
  · rcases h'.2 with ⟨rfl, _⟩ | ⟨g', cap', cur', rfl, _, hg', _⟩
    · cases hk'
    · cases hk; cases hk'
      have hg1 : w.heap[g]? = some (.cells cur e (0, 0)) := hg
      have hg2 : w.heap[g]? = some (.cells cur' e' (0, 0)) := hg'
      rw [hg1] at hg2
      injection hg2 with h1
      injection h1 with _ h2
      exact hne h2
theorem own_one (hb : base ≤ w.heap.size) : (w.alloc (.cells #[v] e)).ownsRow base e 1 (.slice (some ⟨w.heap.size, 0, none⟩) 1 1) 1 [v] :=
  ⟨rfl, .inr ⟨w.heap.size, 1, #[v], rfl, hb, World.alloc_heap_new w _, Nat.le_refl _, by unfold maxLen; omega, rfl, rfl⟩⟩
theorem own_cap {c : Nat} {A : Option Addr} (h : w.ownsRow base e size (.slice A n c) n xs) : n ≤ c := by
  rcases h.2 with ⟨h0, hn⟩ | ⟨g, cap, cur, hv, _, _, hn, _⟩
  · omega
  · injection hv with _ _ hc
    omega
end

/-- hs are slices that read as the lists ls, each of them a row of its own from base on. -/
def Tab (w : World) (base : Nat) (hs : List Value) (ls : List (List Int)) : Prop :=
  hs.length = ls.length ∧ ∀ k, k < ls.length → ∃ A c, hs[k]? = some (.slice A (ls.getD k []).length c) ∧ w.ownsRow base 3 1 (.slice A (ls.getD k []).length c) (ls.getD k []).length (ints (ls.getD k []))
section
variable {w w' : World} {base base' : Nat} {hs : List Value} {ls : List (List Int)}
theorem Tab.nil (w : World) (base : Nat) : Tab w base [] [] := ⟨rfl, fun k h => by simp at h⟩
theorem Tab.lower (h : Tab w base hs ls) (hb : base' ≤ base) : Tab w base' hs ls :=
  ⟨h.1, fun k hk => by obtain ⟨A, c, h1, h2⟩ := h.2 k hk; exact ⟨A, c, h1, own_base h2 hb⟩⟩
theorem Tab.call (h : Tab w base hs ls) (hb : Below w.heap.size w w') : Tab w' base hs ls :=
  ⟨h.1, fun k hk => by obtain ⟨A, c, h1, h2⟩ := h.2 k hk; exact ⟨A, c, h1, own_call h2 hb⟩⟩
/-- A row of another type may be written. -/
theorem Tab.grown (h : Tab w base hs ls) {e b n : Nat} {v : Value} {xs : List Value} (ho : w.ownsRow b e 1 v n xs) (hne : 3 ≠ e) (hg : w.grownBy w' v.ownBlock) : Tab w' base hs ls :=
  ⟨h.1, fun k hk => by
    obtain ⟨A, c, h1, h2⟩ := h.2 k hk
    refine ⟨A, c, h1, h2.kept hg ?_⟩
    cases hA : (Value.slice A (ls.getD k []).length c).ownBlock with
    | none => exact .inl rfl
    | some j => exact .inr (fun e => own_ne h2 ho hne j hA e.symm)⟩
theorem Tab.snoc (h : Tab w base hs ls) {A : Option Addr} {l : List Int} {c : Nat} (ho : w.ownsRow base 3 1 (.slice A l.length c) l.length (ints l)) : Tab w base (hs ++ [.slice A l.length c]) (ls ++ [l]) := by
  refine ⟨by simp [h.1], fun k hk => ?_⟩
  rcases Nat.lt_or_ge k ls.length with hlt | hge
  · obtain ⟨A', c', h1, h2⟩ := h.2 k hlt
    have e : (ls ++ [l]).getD k [] = ls.getD k [] := by simp [hlt, List.getElem?_append_left hlt]
    rw [e]
    exact ⟨A', c', by rw [List.getElem?_append_left (by rw [h.1]; exact hlt)]; exact h1, h2⟩
  · have hk' : k = ls.length := by simp at hk; omega
    subst hk'
    have e : (ls ++ [l]).getD ls.length [] = l := by simp
    rw [e]
    exact ⟨A, c, by rw [List.getElem?_append_right (by rw [h.1]; exact Nat.le_refl _), h.1]; simp, ho⟩
/-- Such a table reads as one. -/
theorem Tab.rt {A : Option Addr} {n c : Nat} (h : Tab w base hs ls) (ho : w.ownsRow base' 23 1 (.slice A n c) n hs) :
    ∃ R : Rows, hs = rowsV R ls ∧ RT w A R ls ∧ ∀ k, k < ls.length → w.ownsRow base 3 1 (.slice (R k).1 (ls.getD k []).length (R k).2) (ls.getD k []).length (ints (ls.getD k [])) := by
  have hc : ∀ k, ∃ p : Option Addr × Nat, k < ls.length → hs[k]? = some (.slice p.1 (ls.getD k []).length p.2) ∧ w.ownsRow base 3 1 (.slice p.1 (ls.getD k []).length p.2) (ls.getD k []).length (ints (ls.getD k [])) := fun k => by
    by_cases hk : k < ls.length
    · obtain ⟨A, c, h1, h2⟩ := h.2 k hk
      exact ⟨(A, c), fun _ => ⟨h1, h2⟩⟩
    · exact ⟨(none, 0), fun h => absurd h hk⟩
  obtain ⟨R, hR⟩ : ∃ R : Rows, ∀ k, k < ls.length → hs[k]? = some (.slice (R k).1 (ls.getD k []).length (R k).2) ∧ w.ownsRow base 3 1 (.slice (R k).1 (ls.getD k []).length (R k).2) (ls.getD k []).length (ints (ls.getD k [])) :=
    ⟨fun k => (hc k).choose, fun k => (hc k).choose_spec⟩
  have he : hs = rowsV R ls := by
    refine List.ext_getElem? fun k => ?_
    rcases Nat.lt_or_ge k ls.length with hk | hk
    · exact (hR k hk).1.trans (rowsV_get hk).symm
    · have h1 : hs.length ≤ k := by rw [h.1]; exact hk
      have h2 : (rowsV R ls).length ≤ k := by simpa using hk
      rw [List.getElem?_eq_none h1, List.getElem?_eq_none h2]
  exact ⟨R, he, ⟨by rw [← he]; exact (own_rd ho).1, fun k hk => (own_rd (hR k hk).2).1⟩, fun k hk => (hR k hk).2⟩
end
/-- A new table and an error. -/
def OutTab (ls : List (List Int)) (x : Int) (w : World) (e : Ending) (w' : World) : Prop :=
  ∃ A' c' R, e = .returned (.tuple #[.slice A' ls.length c', .int .i64 x]) ∧ w'.ownsRow w.heap.size 23 1 (.slice A' ls.length c') ls.length (rowsV R ls) ∧ RT w' A' R ls ∧
    (∀ k, k < ls.length → w'.ownsRow w.heap.size 3 1 (.slice (R k).1 (ls.getD k []).length (R k).2) (ls.getD k []).length (ints (ls.getD k []))) ∧ Below w.heap.size w w'
def OutI (l : List Int) (x : Int) (w : World) (e : Ending) (w' : World) : Prop :=
  ∃ A' c', e = .returned (.tuple #[.slice A' l.length c', .int .i64 x]) ∧ w'.ownsRow w.heap.size 3 1 (.slice A' l.length c') l.length (ints l) ∧ Below w.heap.size w w'
/-- One more slice in a row of slices. -/
theorem append_slice (base : Nat) (w : World) (v : Value) (n : Nat) (hs : List Value) (x : Value) (hx : x.oneCell' = true) (hown : w.ownsRow base 23 1 v n hs) (hlen : n ≤ 100000) (hb : base ≤ w.heap.size) :
    ∃ A' c' w', (∀ ty, (Builtin.append_ #[22, 22] ty #[v, .slice (some ⟨w.heap.size, 0, none⟩) 1 1]).run Try.prog (w.alloc (.cells #[x] 23)) = .ok (.slice A' (n + 1) c') w') ∧ w'.ownsRow base 23 1 (.slice A' (n + 1) c') (n + 1) (hs ++ [x]) ∧ Below base w w' ∧ (w.alloc (.cells #[x] 23)).grownBy w' v.ownBlock := by
  obtain ⟨i0, hi, hz0, hz1, hz2⟩ := info_parts slice_info
  have hrd : Rd (w.alloc (.cells #[x] 23)) (some ⟨w.heap.size, 0, none⟩) [x] := Bx.rd (Bx.new w _ _)
  have hs1 : base ≤ (w.alloc (.cells #[x] 23)).heap.size := by rw [World.size_alloc]; omega
  obtain ⟨A', c', w2, h1, h2, h3⟩ := run_append_rows (P := Try.prog) _ base 22 23 i0 _ 1 24 Try.underlying22 hi hz0 hz1 hz2 rfl (by decide) v n hs (hown.alloc _) (some ⟨w.heap.size, 0, none⟩) 1 1 [x] rfl (fun u hu => by rw [List.mem_singleton.1 hu]; exact hx) hrd (by unfold maxLen; omega) (by omega) hs1
  exact ⟨A', c', w2, h1, h2, ((Below.refl base w).alloc hb _).trans (grown_below (hown.alloc _) h3 hs1), h3⟩
end Go.Proofs.Ytmmjdabioolodaa
