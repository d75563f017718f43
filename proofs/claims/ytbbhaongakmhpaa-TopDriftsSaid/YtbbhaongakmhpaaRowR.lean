/- Rows of readings of a call's own: slices.Clone, append of a row, one need stored. -/
import Derived.Test.YtbbhaongakmhpaaRdg
import Derived.Laws.MakeOwn
namespace Go.Proofs.Ytbbhaongakmhpaa
open Go.RowKit

/-- A new list of threes of type T, and an error. -/
def OutT (T : TypeId) (l : List T3) (x : Int) (w : World) (e : Ending) (w' : World) : Prop :=
  ∃ A' c', e = .returned (.tuple #[.slice A' l.length c', .int .i64 x]) ∧ w'.ownsRow w.heap.size T 3 (.slice A' l.length c') l.length (cellsT l) ∧ Below w.heap.size w w'
def OutI (l : List Int) (x : Int) (w : World) (e : Ending) (w' : World) : Prop :=
  ∃ A' c', e = .returned (.tuple #[.slice A' l.length c', .int .i64 x]) ∧ w'.ownsRow w.heap.size 3 1 (.slice A' l.length c') l.length (ints l) ∧ Below w.heap.size w w'
theorem headT_run (g o n c i : Nat) (h : i ≤ n) (hn : n ≤ c) (w : World) : (Instr.slice 22 (.slice (some ⟨g, o, none⟩) n c) none (some (.int .i64 i)) none).run Try.prog w = .ok (.slice (some ⟨g, o, none⟩) i c) w := by
  have q1 : (i : Int) ≤ (c : Int) := by omega
  have q2 : ¬ (c : Int) = 0 ∨ c = 0 := by omega
  go_simp
theorem fromT_run (g o n c i : Nat) (h : i ≤ n) (hn : n ≤ c) (w : World) : (Instr.slice 22 (.slice (some ⟨g, o, none⟩) n c) (some (.int .i64 i)) none none).run Try.prog w = .ok (.slice (if c = i then some ⟨g, o, none⟩ else some ⟨g, o + i * 3, none⟩) (n - i) (c - i)) w := by
  have q1 : (i : Int) ≤ (n : Int) := by omega
  have q3 : (i : Int) ≤ (c : Int) := by omega
  by_cases hc : c = i
  · subst hc
    go_simp
  · have q2 : ¬ (c : Int) = (i : Int) := by omega
    go_simp
theorem fromT_rd {w : World} {b o c i : Nat} {l : List T3} (h : Rd w (some ⟨b, o, none⟩) (cellsT l)) (hc : l.length ≤ c) : Rd w (if c = i then some ⟨b, o, none⟩ else some ⟨b, o + i * 3, none⟩) (cellsT (l.drop i)) := by
  by_cases hce : c = i
  · rw [List.drop_eq_nil_iff.2 (by omega)]; exact Rd.nil _ _
  · rw [if_neg hce]; exact h.dropped i
/-- A row of threes grown by others. -/
theorem grow_rows (W : World) (base : Nat) (v : Value) (l m : List T3) (B : Option Addr) (c : Nat) (hown : W.ownsRow base 55 3 v l.length (cellsT l)) (hr : Rd W B (cellsT m)) (hlen : l.length + m.length ≤ 100000) (hb : base ≤ W.heap.size) :
    ∃ A' c' W', (∀ ty, (Builtin.append_ #[22, 22] ty #[v, .slice B m.length c]).run Try.prog W = .ok (.slice A' (l.length + m.length) c') W') ∧ W'.ownsRow base 55 3 (.slice A' (l ++ m).length c') (l ++ m).length (cellsT (l ++ m)) ∧ W.grownBy W' v.ownBlock := by
  obtain ⟨i0, hinf, hz0, hz1, hz2⟩ := info_parts rdg_info
  obtain ⟨A', c', W', h1, h2, h3⟩ := run_append_rows (P := Try.prog) W base 22 55 i0 _ 3 24 Try.underlying22 hinf hz0 hz1 hz2 rfl (by decide) v l.length (cellsT l) hown B m.length c (cellsT m) (by simp) (cellsT_one _) hr (by unfold maxLen; omega) (by omega) hb
  exact ⟨A', c', W', h1, by rw [cellsT_append, List.length_append]; exact h2, h3⟩
/-- An empty row, made. -/
theorem own_empty {w0 w : World} {T : TypeId} {g : Nat} (hb : w0.heap.size ≤ g) (h : Bx w g T #[]) : w.ownsRow w0.heap.size T 3 (.slice (some ⟨g, 0, none⟩) 0 0) ([] : List T3).length (cellsT []) :=
  ⟨rfl, .inr ⟨g, 0, #[], rfl, hb, h, Nat.le_refl _, by unfold maxLen; omega, rfl, rfl⟩⟩
theorem own_cap {w : World} {base size e n c : Nat} {A : Option Addr} {xs : List Value} (h : w.ownsRow base e size (.slice A n c) n xs) : n ≤ c := by
  rcases h.2 with ⟨h0, hn⟩ | ⟨g, cap, cur, hv, _, _, hn, _⟩
  · omega
  · injection hv with _ _ hc
    omega
theorem cellsT_set2 : ∀ (M : List T3) (k : Nat) (x : Int), (cellsT M).set (k * 3 + 2) (.int .i64 x) = cellsT (M.set k ((M.getD k t0).1, (M.getD k t0).2.1, x))
  | [], k, x => by simp [cellsT]
  | a :: t, 0, x => rfl
  | a :: t, k + 1, x => by
    have ih := cellsT_set2 t k x
    have e : (k + 1) * 3 + 2 = k * 3 + 2 + 1 + 1 + 1 := by omega
    show ([Value.int .i64 a.1, .int .i64 a.2.1, .int .i64 a.2.2] ++ cellsT t).set ((k + 1) * 3 + 2) _ = _
    rw [e]
    show Value.int .i64 a.1 :: .int .i64 a.2.1 :: .int .i64 a.2.2 :: (cellsT t).set (k * 3 + 2) (.int .i64 x) = _
    rw [ih]
    rfl
theorem own_putT {w : World} {base c k n : Nat} {T : TypeId} {A : Option Addr} {M : List T3} (h : w.ownsRow base T 3 (.slice A n c) n (cellsT M)) (hn : M.length = n) (hk : k < n) :
    ∃ g, A = some ⟨g, 0, none⟩ ∧ base ≤ g ∧ g < w.heap.size ∧ (w.cell? ⟨g, k * 3, none⟩ = some (.int .i64 (M.getD k t0).1) ∧ w.cell? ⟨g, k * 3 + 1, none⟩ = some (.int .i64 (M.getD k t0).2.1) ∧ w.cell? ⟨g, k * 3 + 2, none⟩ = some (.int .i64 (M.getD k t0).2.2)) ∧ w.frozen? ⟨g, k * 3 + 2, none⟩ = false ∧
      ∀ x, (w.setCell ⟨g, k * 3 + 2, none⟩ (.int .i64 x)).ownsRow base T 3 (.slice A n c) n (cellsT (M.set k ((M.getD k t0).1, (M.getD k t0).2.1, x))) := by
  have h' := h
  rcases h'.2 with ⟨he, _⟩ | ⟨g, cap, cur, hv, hb, hg, _⟩
  · simp at he; omega
  · simp only [Value.slice.injEq] at hv
    obtain ⟨rfl, _, rfl⟩ := hv
    have hgl : g < w.heap.size := (Array.getElem?_eq_some_iff.1 hg).1
    refine ⟨g, rfl, hb, hgl, ?_, h.frozenAt _, fun x => ?_⟩
    · obtain ⟨b, o, he, _, h0, h1, h2⟩ := (own_rd h).1.tri (k := k) (by omega)
      injection he with he
      injection he with e1 e2
      subst e1 e2
      rw [Nat.zero_add] at h0 h1 h2
      exact ⟨h0, h1, h2⟩
    · rw [← cellsT_set2]
      exact (h.stored _ _).1

set_option maxRecDepth 100000 in
theorem cloneR_c (A : Option Addr) (l : List T3) (cap : Nat) (w : World) (hlen : l.length ≤ 1000) (hr : Rd w A (cellsT l)) :
    Calls Try.prog 82 #[.slice A l.length cap] w fun e w' => ∃ A' c', e = .returned (.slice A' l.length c') ∧ w'.ownsRow w.heap.size 55 3 (.slice A' l.length c') l.length (cellsT l) ∧ Below w.heap.size w w' := by
  obtain ⟨i0, hi, hz0, hz1, hz2⟩ := info_parts rdg_info
  have qT : ∀ (w : World) (a : Option Addr) (n c n' c' : Nat), (binOp .eql 22 (.slice a n c) (.slice none n' c')).run Try.prog w = .ok (.bool a.isNone) w := fun w a n c n' c' => Lib.run_eql_slice_nil w _ _ a n c n' c' Try.underlying22
  cases A with
  | none =>
    have h0 : l = [] := by
      rcases hr with h | ⟨_, _, h, _⟩
      · have := congrArg List.length h; rw [cellsT_length] at this; exact List.length_eq_zero_iff.1 (by simp at this; omega)
      · cases h
    subst h0
    go_enter Try.func82, Try.ntmps82
    go_wp2_with (fail)
    go_ret
    exact ⟨none, 0, rfl, World.ownsRow_nil _ _ _ _, Below.refl _ _⟩
  | some ad =>
    have hown := World.ownsRow_made (e := 55) (size := 3) w #[] 0 (Nat.le_refl _) (by decide) rfl
    have hb0 : Below w.heap.size w (w.alloc (.cells #[] 55)) := bl_alloc (Below.refl _ _) _
    obtain ⟨A', c', w2, hrun, hown2, hg2⟩ := run_append_rows (P := Try.prog) (w.alloc (.cells #[] 55)) w.heap.size 22 55 i0 _ 3 24 Try.underlying22 hi hz0 hz1 hz2 rfl (by decide) _ 0 [] hown (some ad) l.length cap (cellsT l) (by simp) (cellsT_one _) (hr.later hb0) (by unfold maxLen; omega) (by omega) hb0.size
    have E1 := Lib.hid hrun
    clear hrun
    have hb2 : Below w.heap.size w w2 := hb0.trans (grown_below hown hg2 hb0.size)
    have hown3 : w2.ownsRow w.heap.size 55 3 (.slice A' l.length c') l.length (cellsT l) := by
      simpa using hown2
    clear hown hg2 hown2
    go_enter Try.func82, Try.ntmps82
    go_wp2_with (at_builtin; refine wpList_append_eq rfl _ _ 22 rfl _ _ _ w2 rfl rfl E1.out ?_)
    go_ret
    exact ⟨A', c', by simp, hown3, hb2⟩

theorem made_ints (n : Nat) (hn : n ≤ 100000) (w : World) : ∃ w', (Instr.makeSlice 50 (.int .i64 n) (.int .i64 n)).run Try.prog w = .ok (.slice (some ⟨w.heap.size, 0, none⟩) n n) w' ∧
    w'.ownsRow w.heap.size 3 1 (.slice (some ⟨w.heap.size, 0, none⟩) n n) n (ints (List.replicate n 0)) ∧ w.grownBy w' none := by
  obtain ⟨i0, hi, hz0, hz1, hz2⟩ := info_parts int_info
  obtain ⟨w', h1, h2, h3⟩ := run_make_full (P := Try.prog) w w.heap.size 50 3 i0 _ 1 Try.underlying50 hi hz0 hz1 .i64 .i64 n (by rw [hz2]; omega) (by unfold maxLen; omega) (Nat.le_refl _)
  rw [Nat.mul_one, show (Value.int .i64 0).cells = #[.int .i64 0] from rfl, toList_madeCells_one] at h2
  exact ⟨w', h1, by simpa [ints] using h2, h3⟩
theorem cellsT_set3 : ∀ (M : List T3) (k : Nat) (x : T3), k < M.length → (((cellsT M).set (k * 3) (.int .i64 x.1)).set (k * 3 + 1) (.int .i64 x.2.1)).set (k * 3 + 2) (.int .i64 x.2.2) = cellsT (M.set k x)
  | [], k, x, h => by simp at h
  | a :: t, 0, x, _ => rfl
  | a :: t, k + 1, x, h => by
    have ih := cellsT_set3 t k x (by simpa using h)
    have e : (k + 1) * 3 = k * 3 + 1 + 1 + 1 := by omega
    rw [e]
    show Value.int .i64 a.1 :: .int .i64 a.2.1 :: .int .i64 a.2.2 :: ((((cellsT t).set (k * 3) _).set (k * 3 + 1) _).set (k * 3 + 2) _) = _
    rw [ih]
    rfl
theorem own_put3 {w : World} {base c n g : Nat} {T : TypeId} {M : List T3} (h : w.ownsRow base T 3 (.slice (some ⟨g, 0, none⟩) n c) n (cellsT M)) {i : Nat} (hi : i < M.length) (x : T3) :
    (((w.setCell ⟨g, i * 3, none⟩ (.int .i64 x.1)).setCell ⟨g, i * 3 + 1, none⟩ (.int .i64 x.2.1)).setCell ⟨g, i * 3 + 2, none⟩ (.int .i64 x.2.2)).ownsRow base T 3 (.slice (some ⟨g, 0, none⟩) n c) n (cellsT (M.set i x)) := by
  rw [← cellsT_set3 M i x hi]
  exact (((h.stored _ _).1.stored _ _).1.stored _ _).1

theorem zero_cells (n : Nat) : (Builtin.zeroCells (Value.agg #[.int .i64 0, .int .i64 0, .int .i64 0]).cells n).toList = cellsT (List.replicate n t0) := by
  apply List.ext_getElem?
  intro j
  by_cases hj : j < n * 3
  · have e : (cellsT (List.replicate n t0))[j]? = some (.int .i64 0) := by
      obtain ⟨h0, h1, h2⟩ := cellsT_get (List.replicate n t0) (j / 3) (by simp; omega)
      have hz : (List.replicate n t0).getD (j / 3) t0 = t0 := by
        rw [List.getD_eq_getElem?_getD, List.getElem?_replicate]; split <;> rfl
      rw [hz] at h0 h1 h2
      rcases (by omega : j = j / 3 * 3 ∨ j = j / 3 * 3 + 1 ∨ j = j / 3 * 3 + 2) with e | e | e
      · rw [← e] at h0; exact h0
      · rw [← e] at h1; exact h1
      · rw [← e] at h2; exact h2
    rw [e]
    rcases (by omega : j % 3 = 0 ∨ j % 3 = 1 ∨ j % 3 = 2) with e | e | e <;> simp [Builtin.zeroCells, hj, Value.cells, e]
  · rw [List.getElem?_eq_none (by simp [Builtin.zeroCells, Value.cells]; omega), List.getElem?_eq_none (by simp; omega)]
theorem made_rdgs (n : Nat) (hn : n ≤ 1000) (w : World) : ∃ w', (Instr.makeSlice 22 (.int .i64 n) (.int .i64 n)).run Try.prog w = .ok (.slice (some ⟨w.heap.size, 0, none⟩) n n) w' ∧
    w'.ownsRow w.heap.size 55 3 (.slice (some ⟨w.heap.size, 0, none⟩) n n) n (cellsT (List.replicate n t0)) ∧ w.grownBy w' none := by
  obtain ⟨i0, hi, hz0, hz1, hz2⟩ := info_parts rdg_info
  obtain ⟨w', h1, h2, h3⟩ := run_make_full (P := Try.prog) w w.heap.size 22 55 i0 _ 3 Try.underlying22 hi hz0 hz1 .i64 .i64 n (by rw [hz2]; omega) (by unfold maxLen; omega) (Nat.le_refl _)
  refine ⟨w', h1, ?_, h3⟩
  have := zero_cells n
  first
    | (rw [← this]; simpa using h2)
    | (rw [← this]; exact h2)
/-- A row of threes of a call's own, one of them at hand. -/
theorem own_at3 {w : World} {base c k n : Nat} {T : TypeId} {A : Option Addr} {M : List T3} (h : w.ownsRow base T 3 (.slice A n c) n (cellsT M)) (hn : M.length = n) (hk : k < n) :
    ∃ g, A = some ⟨g, 0, none⟩ ∧ base ≤ g ∧ g < w.heap.size ∧ (w.cell? ⟨g, k * 3, none⟩ = some (.int .i64 (M.getD k t0).1) ∧ w.cell? ⟨g, k * 3 + 1, none⟩ = some (.int .i64 (M.getD k t0).2.1) ∧ w.cell? ⟨g, k * 3 + 2, none⟩ = some (.int .i64 (M.getD k t0).2.2)) ∧
      (w.frozen? ⟨g, k * 3, none⟩ = false ∧ w.frozen? ⟨g, k * 3 + 1, none⟩ = false ∧ w.frozen? ⟨g, k * 3 + 2, none⟩ = false) := by
  have h' := h
  rcases h'.2 with ⟨he, _⟩ | ⟨g, cap, cur, hv, hb, hg, _⟩
  · simp at he; omega
  · simp only [Value.slice.injEq] at hv
    obtain ⟨rfl, _, rfl⟩ := hv
    have hgl : g < w.heap.size := (Array.getElem?_eq_some_iff.1 hg).1
    refine ⟨g, rfl, hb, hgl, ?_, h.frozenAt _, h.frozenAt _, h.frozenAt _⟩
    obtain ⟨b, o, he, _, h0, h1, h2⟩ := (own_rd h).1.tri (k := k) (by omega)
    injection he with he
    injection he with e1 e2
    subst e1 e2
    rw [Nat.zero_add] at h0 h1 h2
    exact ⟨h0, h1, h2⟩
theorem cellsT_set0 : ∀ (M : List T3) (k : Nat) (x : Int), (cellsT M).set (k * 3) (.int .i64 x) = cellsT (M.set k (x, (M.getD k t0).2.1, (M.getD k t0).2.2))
  | [], k, x => by simp [cellsT]
  | a :: t, 0, x => rfl
  | a :: t, k + 1, x => by
    have ih := cellsT_set0 t k x
    have e : (k + 1) * 3 = k * 3 + 1 + 1 + 1 := by omega
    show ([Value.int .i64 a.1, .int .i64 a.2.1, .int .i64 a.2.2] ++ cellsT t).set ((k + 1) * 3) _ = _
    rw [e]
    show Value.int .i64 a.1 :: .int .i64 a.2.1 :: .int .i64 a.2.2 :: (cellsT t).set (k * 3) (.int .i64 x) = _
    rw [ih]
    rfl
theorem cellsT_set1 : ∀ (M : List T3) (k : Nat) (x : Int), (cellsT M).set (k * 3 + 1) (.int .i64 x) = cellsT (M.set k ((M.getD k t0).1, x, (M.getD k t0).2.2))
  | [], k, x => by simp [cellsT]
  | a :: t, 0, x => rfl
  | a :: t, k + 1, x => by
    have ih := cellsT_set1 t k x
    have e : (k + 1) * 3 + 1 = k * 3 + 1 + 1 + 1 + 1 := by omega
    show ([Value.int .i64 a.1, .int .i64 a.2.1, .int .i64 a.2.2] ++ cellsT t).set ((k + 1) * 3 + 1) _ = _
    rw [e]
    show Value.int .i64 a.1 :: .int .i64 a.2.1 :: .int .i64 a.2.2 :: (cellsT t).set (k * 3 + 1) (.int .i64 x) = _
    rw [ih]
    rfl
theorem own_set0 {w : World} {base c n g k : Nat} {T : TypeId} {M : List T3} (h : w.ownsRow base T 3 (.slice (some ⟨g, 0, none⟩) n c) n (cellsT M)) (x : Int) :
    (w.setCell ⟨g, k * 3, none⟩ (.int .i64 x)).ownsRow base T 3 (.slice (some ⟨g, 0, none⟩) n c) n (cellsT (M.set k (x, (M.getD k t0).2.1, (M.getD k t0).2.2))) := by
  rw [← cellsT_set0]
  exact (h.stored _ _).1
theorem own_set12 {w : World} {base c n g k : Nat} {T : TypeId} {M : List T3} (h : w.ownsRow base T 3 (.slice (some ⟨g, 0, none⟩) n c) n (cellsT M)) (hk : k < M.length) (x y : Int) :
    ((w.setCell ⟨g, k * 3 + 1, none⟩ (.int .i64 x)).setCell ⟨g, k * 3 + 2, none⟩ (.int .i64 y)).ownsRow base T 3 (.slice (some ⟨g, 0, none⟩) n c) n (cellsT (M.set k ((M.getD k t0).1, x, y))) := by
  have h1 : (w.setCell ⟨g, k * 3 + 1, none⟩ (.int .i64 x)).ownsRow base T 3 (.slice (some ⟨g, 0, none⟩) n c) n (cellsT (M.set k ((M.getD k t0).1, x, (M.getD k t0).2.2))) := by
    rw [← cellsT_set1]; exact (h.stored _ _).1
  have h2 := (h1.stored (k * 3 + 2) (.int .i64 y)).1
  rw [cellsT_set2] at h2
  have e : (M.set k ((M.getD k t0).1, x, (M.getD k t0).2.2)).getD k t0 = ((M.getD k t0).1, x, (M.getD k t0).2.2) := by simp [hk]
  rw [e, List.set_set] at h2
  exact h2
end Go.Proofs.Ytbbhaongakmhpaa
