/- slices.IndexFunc and slices.DeleteFunc at options, with the comparison to a limit. -/
import Derived.Test.YtgbjglkiaoplmaaOcm
import Derived.Laws.CopyRow
namespace Go.Proofs.Ytgbjglkiaoplmaa
open Go.RowKit

abbrev VO := Value × Op
def vo0 : VO := (.slice none 0 0, op0)
theorem cellsO_get : ∀ (l : List VO) (k : Nat), k < l.length → (cellsO l)[k * 4]? = some (l.getD k vo0).1 ∧ (cellsO l)[k * 4 + 1]? = some (.int .i64 (l.getD k vo0).2.k) ∧ (cellsO l)[k * 4 + 2]? = some (.int .i64 (rat (l.getD k vo0).2.p).1) ∧ (cellsO l)[k * 4 + 3]? = some (.int .i64 (rat (l.getD k vo0).2.p).2)
  | a :: t, 0, _ => by simp [cellsO]
  | a :: t, k + 1, h => by
    have := cellsO_get t k (by simpa using h)
    rw [Nat.succ_mul]
    simpa [cellsO] using this
theorem cellsO_take (l : List VO) (i : Nat) : (cellsO l).take (i * 4) = cellsO (l.take i) := by
  induction i generalizing l with
  | zero => simp [cellsO]
  | succ i ih =>
    cases l with
    | nil => simp [cellsO]
    | cons a t =>
      have := ih t
      rw [Nat.succ_mul]
      simpa [cellsO] using this
theorem Rd.opt {w : World} {A : Option Addr} {l : List VO} (h : Rd w A (cellsO l)) {k : Nat} (hk : k < l.length) : ∃ b o, A = some ⟨b, o, none⟩ ∧ b < w.heap.size ∧
    w.cell? ⟨b, o + k * 4, none⟩ = some (l.getD k vo0).1 ∧ w.cell? ⟨b, o + k * 4 + 1, none⟩ = some (.int .i64 (l.getD k vo0).2.k) ∧ w.cell? ⟨b, o + k * 4 + 2, none⟩ = some (.int .i64 (rat (l.getD k vo0).2.p).1) ∧ w.cell? ⟨b, o + k * 4 + 3, none⟩ = some (.int .i64 (rat (l.getD k vo0).2.p).2) := by
  obtain ⟨b, o, rfl, hb, hc⟩ := h.at_ (k := k * 4) (by rw [cellsO_length]; omega)
  obtain ⟨h0, h1, h2, h3⟩ := cellsO_get l k hk
  exact ⟨b, o, rfl, hb, hc _ _ h0, by rw [Nat.add_assoc]; exact hc _ _ h1, by rw [Nat.add_assoc]; exact hc _ _ h2, by rw [Nat.add_assoc]; exact hc _ _ h3⟩
theorem cellsO_set4 : ∀ (M : List VO) (k : Nat) (x : VO), k < M.length → ((((cellsO M).set (k * 4) x.1).set (k * 4 + 1) (.int .i64 x.2.k)).set (k * 4 + 2) (.int .i64 (rat x.2.p).1)).set (k * 4 + 3) (.int .i64 (rat x.2.p).2) = cellsO (M.set k x)
  | [], k, x, h => by simp at h
  | a :: t, 0, x, _ => rfl
  | a :: t, k + 1, x, h => by
    have ih := cellsO_set4 t k x (by simpa using h)
    have e : (k + 1) * 4 = k * 4 + 1 + 1 + 1 + 1 := by omega
    rw [e]
    show a.1 :: Value.int .i64 a.2.k :: .int .i64 (rat a.2.p).1 :: .int .i64 (rat a.2.p).2 :: (((((cellsO t).set (k * 4) _).set (k * 4 + 1) _).set (k * 4 + 2) _).set (k * 4 + 3) _) = _
    rw [ih]
    rfl
theorem own_put4 {w : World} {base c n g : Nat} {T : TypeId} {M : List VO} (h : w.ownsRow base T 4 (.slice (some ⟨g, 0, none⟩) n c) n (cellsO M)) {i : Nat} (hi : i < M.length) (x : VO) :
    ((((w.setCell ⟨g, i * 4, none⟩ x.1).setCell ⟨g, i * 4 + 1, none⟩ (.int .i64 x.2.k)).setCell ⟨g, i * 4 + 2, none⟩ (.int .i64 (rat x.2.p).1)).setCell ⟨g, i * 4 + 3, none⟩ (.int .i64 (rat x.2.p).2)).ownsRow base T 4 (.slice (some ⟨g, 0, none⟩) n c) n (cellsO (M.set i x)) := by
  rw [← cellsO_set4 M i x hi]
  exact ((((h.stored _ _).1.stored _ _).1.stored _ _).1.stored _ _).1
theorem own_getO {w : World} {base c k n : Nat} {T : TypeId} {A : Option Addr} {M : List VO} (h : w.ownsRow base T 4 (.slice A n c) n (cellsO M)) (hn : M.length = n) (hk : k < n) :
    ∃ g, A = some ⟨g, 0, none⟩ ∧ base ≤ g ∧ g < w.heap.size ∧ (w.cell? ⟨g, k * 4, none⟩ = some (M.getD k vo0).1 ∧ w.cell? ⟨g, k * 4 + 1, none⟩ = some (.int .i64 (M.getD k vo0).2.k) ∧ w.cell? ⟨g, k * 4 + 2, none⟩ = some (.int .i64 (rat (M.getD k vo0).2.p).1) ∧ w.cell? ⟨g, k * 4 + 3, none⟩ = some (.int .i64 (rat (M.getD k vo0).2.p).2)) ∧
      w.frozen? ⟨g, k * 4, none⟩ = false ∧ w.frozen? ⟨g, k * 4 + 1, none⟩ = false ∧ w.frozen? ⟨g, k * 4 + 2, none⟩ = false ∧ w.frozen? ⟨g, k * 4 + 3, none⟩ = false := by
  have h' := h
  rcases h'.2 with ⟨he, _⟩ | ⟨g, cap, cur, hv, hb, hg, _⟩
  · simp at he; omega
  · simp only [Value.slice.injEq] at hv
    obtain ⟨rfl, _, rfl⟩ := hv
    have hgl : g < w.heap.size := (Array.getElem?_eq_some_iff.1 hg).1
    refine ⟨g, rfl, hb, hgl, ?_, h.frozenAt _, h.frozenAt _, h.frozenAt _, h.frozenAt _⟩
    obtain ⟨b, o, he, _, h0, h1, h2, h3⟩ := (own_rd h).1.opt (k := k) (by omega)
    injection he with he
    injection he with e1 e2
    subst e1 e2
    rw [Nat.zero_add] at h0 h1 h2 h3
    exact ⟨h0, h1, h2, h3⟩
/-- What the options are like: slices, and totals that can be counted. -/
def Opts (L : List VO) : Prop := ∀ k, k < L.length → Cnt (L.getD k vo0).2.p ∧ ∃ A n c, (L.getD k vo0).1 = .slice A n c

def zeroO (n : Nat) : List Value := (Builtin.zeroCells (Value.agg #[.slice none 0 0, .int .i64 0, .int .i64 0, .int .i64 0]).cells n).toList
theorem zeroO_len (n : Nat) : (zeroO n).length = n * 4 := by simp [zeroO, Builtin.zeroCells, Value.cells]
theorem zeroO_one (n : Nat) : ∀ u ∈ zeroO n, u.oneCell' = true := by
  intro u hu
  simp only [zeroO, Builtin.zeroCells, Array.toList_map, List.mem_map] at hu
  obtain ⟨i, _, rfl⟩ := hu
  have h4 : (Value.agg #[.slice none 0 0, .int .i64 0, .int .i64 0, .int .i64 0]).cells = #[.slice none 0 0, .int .i64 0, .int .i64 0, .int .i64 0] := rfl
  rw [h4]
  rcases (by have := Nat.mod_lt i (show 0 < 4 by decide); omega : i % 4 = 0 ∨ i % 4 = 1 ∨ i % 4 = 2 ∨ i % 4 = 3) with e | e | e | e <;> simp [e] <;> rfl
theorem run_clear_opts (w : World) (ty : TypeId) (g o n c : Nat) (cur : Array Value) (hg : w.heap[g]? = some (.cells cur 95 (0, 0))) (hfit : o + n * 4 ≤ cur.size) :
    (Builtin.clear_ #[101] ty #[.slice (some ⟨g, o, none⟩) n c]).run Try.prog w = .ok (.tuple #[]) (w.setRow g (cur.toList.take o ++ zeroO n ++ cur.toList.drop (o + n * 4)).toArray) ∨ n = 0 := by
  rcases Nat.eq_zero_or_pos n with h0 | hn
  · exact .inr h0
  · left
    have hl := zeroO_len n
    have hst := run_storeCells_at Try.prog g o 95 (zeroO n) 0 cur w hg (by rw [hl]; simpa using hfit) (zeroO_one n)
    simp only [Nat.add_zero] at hst
    rw [hl] at hst
    have hv : ∀ w, (zeroValue 95).run Try.prog w = .ok (.agg #[.slice none 0 0, .int .i64 0, .int .i64 0, .int .i64 0]) w := by
      obtain ⟨i0, hi, hz0, hz1, hz2⟩ := info_parts option_info
      intro w
      simp [zeroValue, typeInfo, hi, hz0]
    unfold zeroO at hst ⊢
    obtain ⟨m, rfl⟩ : ∃ m, n = m + 1 := ⟨n - 1, by omega⟩
    simp [Builtin.clear_, run_underlying Try.underlying101, hv, hst]

/-- Those by which it closes. -/
def keepO (m e : Int) (L : List VO) : List VO := L.filter fun a => closeO m e a.2
theorem keepO_len (m e : Int) (l : List VO) : (keepO m e l).length ≤ l.length := List.length_filter_le _ _
theorem keepO_map (m e : Int) (l : List VO) : (keepO m e l).map (·.2) = (l.map (·.2)).filter (closeO m e) := by
  induction l with
  | nil => rfl
  | cons a t ih =>
    unfold keepO at *
    rw [List.filter_cons, List.map_cons, List.filter_cons]
    split <;> simp [ih]
theorem keepO_succ {m e : Int} {l : List VO} {k : Nat} (h : k < l.length) : keepO m e (l.take (k + 1)) = if closeO m e (l.getD k vo0).2 = true then keepO m e (l.take k) ++ [l.getD k vo0] else keepO m e (l.take k) := by
  have h2 : l.getD k vo0 = l[k] := by simp [h]
  rw [List.take_succ_eq_append_getElem h, keepO, List.filter_append, ← h2]
  generalize l.getD k vo0 = x
  split
  · rename_i q; rw [List.filter_cons_of_pos (by exact q), List.filter_nil]; rfl
  · rename_i q; rw [List.filter_cons_of_neg (by exact q), List.filter_nil, List.append_nil]; rfl
theorem keepO_id {m e : Int} {l : List VO} (h : ∀ j, j < l.length → closeO m e (l.getD j vo0).2 = true) : keepO m e l = l := by
  rw [keepO, List.filter_eq_self]
  intro a ha
  obtain ⟨j, hj, rfl⟩ := List.getElem_of_mem ha
  have := h j hj
  simpa [hj] using this
theorem keepO_first {m e : Int} {l : List VO} {k : Nat} (hk : k < l.length) (h : ∀ j, j < k → closeO m e (l.getD j vo0).2 = true) (h2 : closeO m e (l.getD k vo0).2 = false) : keepO m e (l.take (k + 1)) = l.take k := by
  rw [keepO_succ hk, h2, if_neg (by decide)]
  refine keepO_id fun j hj => ?_
  have hj' : j < k := by simp at hj; omega
  have q : (l.take k).getD j vo0 = l.getD j vo0 := by simp [hj']
  rw [q]; exact h j hj'
theorem keepO_less {m e : Int} {l : List VO} {k : Nat} (hk : k < l.length) (h2 : closeO m e (l.getD k vo0).2 = false) : (keepO m e l).length < l.length := by
  have hs : l = l.take k ++ l.drop k := (List.take_append_drop _ _).symm
  rw [hs, keepO, List.filter_append, List.drop_eq_getElem_cons hk]
  have h2' : closeO m e l[k].2 = false := by
    have q : l.getD k vo0 = l[k] := by simp [hk]
    rw [← q]; exact h2
  rw [List.filter_cons_of_neg (by simp [h2']), List.length_append, List.length_append, List.length_cons]
  have a1 := List.length_filter_le (fun a : VO => closeO m e a.2) (l.take k)
  have a2 := List.length_filter_le (fun a : VO => closeO m e a.2) (l.drop (k + 1))
  omega
/-- What the loop of DeleteFunc keeps. -/
structure DelInv (m e : Int) (l : List VO) (M : List VO) (j : Nat) : Prop where
  len : M.length = l.length
  pre : M.take (keepO m e (l.take j)).length = keepO m e (l.take j)
  suf : M.drop j = l.drop j
section
variable {m e : Int} {l M : List VO} {j : Nat}
theorem DelInv.get (h : DelInv m e l M j) : M.getD j vo0 = l.getD j vo0 := by
  have h1 : M.getD j vo0 = (M.drop j).getD 0 vo0 := by simp
  have h2 : l.getD j vo0 = (l.drop j).getD 0 vo0 := by simp
  rw [h1, h2, h.suf]
theorem keepO_take (m e : Int) (l : List VO) (j : Nat) : (keepO m e (l.take j)).length ≤ j := by
  have := keepO_len m e (l.take j)
  rw [List.length_take] at this; omega
theorem drop_next (h : M.drop j = l.drop j) : M.drop (j + 1) = l.drop (j + 1) := by
  have := congrArg (List.drop 1) h
  simpa [List.drop_drop, Nat.add_comm] using this
theorem DelInv.skip (h : DelInv m e l M j) (hj : j < l.length) (hc : closeO m e (l.getD j vo0).2 = false) : DelInv m e l M (j + 1) ∧ (keepO m e (l.take (j + 1))).length = (keepO m e (l.take j)).length := by
  have q : keepO m e (l.take (j + 1)) = keepO m e (l.take j) := by rw [keepO_succ hj, hc, if_neg (by decide)]
  exact ⟨⟨h.len, by rw [q]; exact h.pre, drop_next h.suf⟩, by rw [q]⟩
theorem DelInv.put (h : DelInv m e l M j) (hj : j < l.length) (hc : closeO m e (l.getD j vo0).2 = true) : DelInv m e l (M.set (keepO m e (l.take j)).length (l.getD j vo0)) (j + 1) ∧ (keepO m e (l.take (j + 1))).length = (keepO m e (l.take j)).length + 1 := by
  have q : keepO m e (l.take (j + 1)) = keepO m e (l.take j) ++ [l.getD j vo0] := by rw [keepO_succ hj, if_pos hc]
  have hi := keepO_take m e l j
  have hl := h.len
  have hp := h.pre
  have hd := drop_next h.suf
  rw [q]
  clear hc
  generalize keepO m e (l.take j) = U at *
  generalize l.getD j vo0 = x at *
  refine ⟨⟨by rw [List.length_set]; exact hl, ?_, ?_⟩, by simp⟩
  · rw [q, List.length_append, List.length_singleton, List.take_succ_eq_append_getElem (by rw [List.length_set]; omega), List.getElem_set_self, List.take_set_of_le (Nat.le_refl _), hp]
  · rw [List.drop_set, if_pos (by omega)]; exact hd
theorem DelInv.first {k : Nat} (hk : k < l.length) (h : ∀ j, j < k → closeO m e (l.getD j vo0).2 = true) (h2 : closeO m e (l.getD k vo0).2 = false) : DelInv m e l l (k + 1) ∧ (keepO m e (l.take (k + 1))).length = k := by
  have q := keepO_first hk h h2
  have hl : (l.take k).length = k := by simp; omega
  exact ⟨⟨rfl, by rw [q, hl], rfl⟩, by rw [q, hl]⟩
theorem DelInv.done (h : DelInv m e l M l.length) : M.take (keepO m e l).length = keepO m e l := by
  have := h.pre
  rwa [List.take_length] at this
end
/-- The rest is cleared, the beginning stays. -/
theorem own_clear {w : World} {base n c g i : Nat} {M : List VO} (hb : base ≤ w.heap.size) (h : w.ownsRow base 95 4 (.slice (some ⟨g, 0, none⟩) n c) n (cellsO M)) (hM : M.length = n) (hi : i < n) :
    ∃ w', (∀ ty, (Builtin.clear_ #[101] ty #[.slice (some ⟨g, i * 4, none⟩) (n - i) (c - i)]).run Try.prog w = .ok (.tuple #[]) w') ∧ w'.ownsRow base 95 4 (.slice (some ⟨g, 0, none⟩) i c) i (cellsO (M.take i)) ∧ Below base w w' ∧ n ≤ c ∧
      (∀ hs ls, Tab w base hs ls → Tab w' base hs ls) := by
  have hrow := h
  rcases h.2 with ⟨h0, _⟩ | ⟨g', cap, cur, hv, hbg, hheap, hle, hm, hsz, hpre⟩
  · cases h0
  injection hv with hA _ hc
  injection hA with hA
  injection hA with hA
  subst hA hc
  have hfit : i * 4 + (n - i) * 4 ≤ cur.size := by rw [hsz]; omega
  have hsl : cur.toList.length = c * 4 := by simpa using hsz
  have hg : w.grownBy (w.setRow g (cur.toList.take (i * 4) ++ zeroO (n - i) ++ cur.toList.drop (i * 4 + (n - i) * 4)).toArray) (some g) := by
    refine ⟨rfl, rfl, rfl, by rw [setRow_size]; exact Nat.le_refl _, fun k hk hne => ?_⟩
    have hne' : k ≠ g := fun e => hne (by rw [e])
    rw [setRow_other _ _ _ _ hne']
  refine ⟨_, fun ty => (run_clear_opts w ty g (i * 4) (n - i) (c - i) cur hheap hfit).resolve_right (by omega), ⟨by simp; omega, .inr ⟨g, c, _, rfl, hbg, setRow_heap w g cur _ _ _ hheap, by omega, hm, ?_, ?_⟩⟩, ?_, hle, fun hs ls ht => ht.grown hrow (by decide) hg⟩
  · have := zeroO_len (n - i); simp [this]; omega
  · have hl1 : (cur.toList.take (i * 4)).length = i * 4 := by rw [List.length_take]; omega
    show List.take (i * 4) (cur.toList.take (i * 4) ++ zeroO (n - i) ++ cur.toList.drop (i * 4 + (n - i) * 4)) = _
    rw [List.append_assoc, List.take_append_of_le_length (by omega), List.take_take, Nat.min_self, ← cellsO_take, ← hpre, List.take_take]
    congr 1; omega
  · exact (Below.refl base w).grown hg (by omega) (fun k e => by cases e; exact hbg)

theorem grown_set4 {w : World} {g : Nat} (i j k l : Nat) (a b c d : Value) : w.grownBy ((((w.setCell ⟨g, i, none⟩ a).setCell ⟨g, j, none⟩ b).setCell ⟨g, k, none⟩ c).setCell ⟨g, l, none⟩ d) (some g) := by
  refine ⟨rfl, rfl, rfl, by simp only [World.size_setCell]; exact Nat.le_refl _, fun n hn hne => ?_⟩
  have hne' : n ≠ g := fun e => hne (by rw [e])
  rw [Below.heap_setCell _ ⟨g, l, none⟩ d n hne', Below.heap_setCell _ ⟨g, k, none⟩ c n hne', Below.heap_setCell _ ⟨g, j, none⟩ b n hne', Below.heap_setCell _ ⟨g, i, none⟩ a n hne']
theorem Tab.put4 {w : World} {base b n c g : Nat} {hs : List Value} {ls : List (List Int)} {xs : List Value} (h : Tab w base hs ls) (ho : w.ownsRow b 95 4 (.slice (some ⟨g, 0, none⟩) n c) n xs) (i : Nat) (a1 a2 a3 a4 : Value) :
    Tab ((((w.setCell ⟨g, i, none⟩ a1).setCell ⟨g, i + 1, none⟩ a2).setCell ⟨g, i + 2, none⟩ a3).setCell ⟨g, i + 3, none⟩ a4) base hs ls := h.grown ho (by decide) (grown_set4 _ _ _ _ _ _ _ _)
set_option maxHeartbeats 1000000 in
theorem chp1_c (B : Nat) (m e : Int) (A : Option Addr) (n c : Nat) (k p : Int) (w : World) (hL : limB m e = true) (hp : Cnt p) (hx : Bx w B 30 #[.int .i64 m, .int .i64 e]) :
    Calls Try.prog 105 #[.agg #[.slice A n c, .int .i64 k, .int .i64 (rat p).1, .int .i64 (rat p).2], .pointer (some ⟨B, 0, none⟩)] w fun f w' => f = .returned (.bool (!decide (p * e ≤ m * 2520))) ∧ Below w.heap.size w w' := by
  obtain ⟨d0, d1, n0, n1⟩ := limB_iff.1 hL
  have hf := rat_fr hp
  have p1 := mul_in (a := m) (b := (rat p).2) (A := 1000000) (B := 2520) ⟨n0, n1⟩ ⟨by omega, hf.2.2⟩
  have p2 := mul_in (a := (rat p).1) (b := e) (A := 50000000) (B := 1000000) ⟨hf.1.1, hf.1.2⟩ ⟨by omega, d1⟩
  have HL := fun w => Lib.hid (less_c m e (rat p).1 (rat p).2 w (by omega) (by omega))
  have hc : (!decide (p * e ≤ m * 2520)) = decide (m * (rat p).2 < (rat p).1 * e) := by
    rw [Bool.eq_iff_iff, decide_eq_true_eq, Bool.not_eq_true', decide_eq_false_iff_not, lim_lt]
    omega
  rw [hc]
  generalize decide (m * (rat p).2 < (rat p).1 * e) = z at *
  generalize (rat p).1 = a at *
  generalize (rat p).2 = b at *
  clear hc p1 p2 hf hp hL d0 d1 n0 n1
  have hb0 := bl_alloc (Below.refl w.heap.size w) (.cells #[.slice A n c, .int .i64 k, .int .i64 a, .int .i64 b] 95)
  have x0 : Bx (w.alloc (.cells #[.slice A n c, .int .i64 k, .int .i64 a, .int .i64 b] 95)) w.heap.size 95 #[.slice A n c, .int .i64 k, .int .i64 a, .int .i64 b] := Bx.new w _ _
  obtain ⟨y0, y1, y2, y3⟩ := x0.four
  obtain ⟨z0, z1, _, _⟩ := (hx.call hb0).two
  obtain ⟨u0, u1, _, _⟩ := hx.two
  clear x0 hx
  go_enter Try.func105, Try.ntmps105
  go_wp2_with (fail)
  refine (HL _).out.mono ?_
  rintro f w1 ⟨rfl, hb1⟩
  go_wp2_with (fail)
  go_ret
  exact ⟨rfl, bl_call hb0 hb1⟩
set_option maxRecDepth 100000 in
set_option maxHeartbeats 2000000 in
theorem indexO_c (A : Option Addr) (l : List VO) (c : Nat) (B : Nat) (m e : Int) (w : World) (hL : limB m e = true) (hlen : l.length ≤ 1000) (ho : Opts l) (hx : Bx w B 30 #[.int .i64 m, .int .i64 e]) (hr : Rd w A (cellsO l)) :
    Calls Try.prog 111 #[.slice A l.length c, .func (.func 105) #[] #[.pointer (some ⟨B, 0, none⟩)]] w fun f w' => (∃ r : Int, f = .returned (.int .i64 r) ∧ ((r = -1 ∧ ∀ j, j < l.length → closeO m e (l.getD j vo0).2 = true) ∨ ∃ k : Nat, r = (k : Int) ∧ k < l.length ∧ closeO m e (l.getD k vo0).2 = false ∧ ∀ j, j < k → closeO m e (l.getD j vo0).2 = true)) ∧ Below w.heap.size w w' := by
  replace ho := Lib.hid ho
  replace hL := Lib.hid hL
  go_enter Try.func111, Try.ntmps111
  go_wp2_with (fail)
  go_loopg [8] l.length (fun gk iv wr => ∃ k : Nat, Hid (k + gk = l.length) ∧ iv = .int .i64 (k : Int) ∧ Hid (∀ j, j < k → closeO m e (l.getD j vo0).2 = true) ∧ Below w.heap.size w wr)
  case atStart => exact ⟨0, by simp [Hid], rfl, fun j h => absurd h (by omega), Below.refl _ _⟩
  case round =>
    obtain ⟨k, HK, rfl, HP, hb⟩ := hrel
    rcases gk with _ | gi
    · obtain rfl : k = l.length := HK.out
      go_wp2_with (fail)
      go_ret
      exact ⟨⟨-1, rfl, .inl ⟨rfl, HP.out⟩⟩, hb⟩
    · have hkl : k < l.length := by have := HK.out; omega
      have hkl' : (k : Int) < (l.length : Int) := by omega
      obtain ⟨b, o, rfl, _, c0, c1, c2, c3⟩ := (hr.later hb).opt hkl
      have HX : Hid (closeO m e (l.getD k vo0).2 = false → ∃ r : Int, r = (k : Int) ∧ ((r = -1 ∧ ∀ j, j < l.length → closeO m e (l.getD j vo0).2 = true) ∨ ∃ k : Nat, r = (k : Int) ∧ k < l.length ∧ closeO m e (l.getD k vo0).2 = false ∧ ∀ j, j < k → closeO m e (l.getD j vo0).2 = true)) := fun h => ⟨_, rfl, .inr ⟨k, rfl, hkl, h, HP.out⟩⟩
      have HG : Hid (closeO m e (l.getD k vo0).2 = true → ∀ j, j < k + 1 → closeO m e (l.getD j vo0).2 = true) := fun h j hj => by
        rcases Nat.lt_or_ge j k with x | x
        · exact HP.out j x
        · obtain rfl : j = k := by omega
          exact h
      obtain ⟨hcn, A1, n1, c4, hv⟩ := ho.out k hkl
      have HI := fun w1 (h : Bx w1 B 30 #[.int .i64 m, .int .i64 e]) => Lib.hid (chp1_c B m e A1 n1 c4 (l.getD k vo0).2.k (l.getD k vo0).2.p w1 hL.out hcn h)
      have hq : closeO m e (l.getD k vo0).2 = decide ((l.getD k vo0).2.p * e ≤ m * 2520) := rfl
      rw [← hq] at HI
      rw [hv] at c0
      clear hq hv hcn
      generalize closeO m e (l.getD k vo0).2 = z at *
      generalize (l.getD k vo0).2.k = x1 at *
      generalize (rat (l.getD k vo0).2.p).1 = x2 at *
      generalize (rat (l.getD k vo0).2.p).2 = x3 at *
      have hx1 := Lib.hid (hx.call hb)
      cases z with
      | false =>
        obtain ⟨r, hr1, hr2⟩ := HX.out rfl
        have HR := Lib.hid hr2
        have HR1 := Lib.hid hr1
        clear hr1 hr2
        go_wp2_with (go_at_call 105; refine (HI _ (by first | exact hx1.out | exact hx1.out.drew)).out.mono ?_; rintro f w3 ⟨rfl, hb3⟩)
        go_ret
        exact ⟨⟨r, by rw [HR1.out]; rfl, HR.out⟩, bl_call hb hb3⟩
      | true =>
        have HX2 := Lib.hid (HG.out rfl)
        go_wp2_with (go_at_call 105; refine (HI _ (by first | exact hx1.out | exact hx1.out.drew)).out.mono ?_; rintro f w3 ⟨rfl, hb3⟩)
        go_roundg gi
        case rel => exact ⟨k + 1, by have := HK.out; show _ = _; omega, by go_num, HX2.out, bl_call hb hb3⟩
        case measure => omega
set_option maxRecDepth 100000 in
set_option maxHeartbeats 4000000 in
theorem deleteO_c (base : Nat) (A : Option Addr) (l : List VO) (c : Nat) (B : Nat) (m e : Int) (w : World) (hL : limB m e = true) (hlen : l.length ≤ 1000) (ho : Opts l) (hB : B < base) (hx : Bx w B 30 #[.int .i64 m, .int .i64 e]) (hbase : base ≤ w.heap.size) (hown : w.ownsRow base 95 4 (.slice A l.length c) l.length (cellsO l)) :
    Calls Try.prog 104 #[.slice A l.length c, .func (.func 105) #[] #[.pointer (some ⟨B, 0, none⟩)]] w fun f w' => ∃ A' c', f = .returned (.slice A' (keepO m e l).length c') ∧ w'.ownsRow base 95 4 (.slice A' (keepO m e l).length c') (keepO m e l).length (cellsO (keepO m e l)) ∧ (∀ hs ls, Tab w base hs ls → Tab w' base hs ls) ∧ Below base w w' := by
  have HI := Lib.hid (indexO_c A l c B m e w hL hlen ho hx (own_rd hown).1)
  replace ho := Lib.hid ho
  replace hL := Lib.hid hL
  have HBX := Lib.hid (fun w1 (h : Below base w w1) => show Bx w1 B 30 #[.int .i64 m, .int .i64 e] from (h.block B hB).trans hx)
  go_enter Try.func104, Try.ntmps104
  go_wp2_with (fail)
  refine HI.out.mono ?_
  rintro f w1 ⟨⟨r, rfl, hr⟩, hb1⟩
  have hown1 := own_call hown hb1
  have hbe1 : Below base w w1 := (Below.refl base w).trans (hb1.mono hbase)
  have HT1 := Lib.hid (fun hs ls (h : Tab w base hs ls) => h.call hb1)
  rcases hr with ⟨rfl, hno⟩ | ⟨k, rfl, hkl, hk2, hkn⟩
  · have hu := Lib.hid (keepO_id hno)
    clear hno
    go_wp2_with (fail)
    go_ret
    exact ⟨A, c, by rw [hu.out]; rfl, by rw [hu.out]; exact hown1, HT1.out, hbe1⟩
  · have hn1 : ¬ ((k : Int) = -1) := by omega
    obtain ⟨g, rfl, hbg, hgl, _⟩ := own_getO (k := k) hown1 rfl hkl
    have hless := Lib.hid (keepO_less hkl hk2)
    obtain ⟨hf1, hf2⟩ := DelInv.first hkl hkn hk2
    have HF1 := Lib.hid hf1
    have HF2 := Lib.hid hf2
    have hkl2 := Lib.hid hkl
    clear hkn hk2 hf1 hf2 hn1 hown
    go_wp2_with (fail)
    go_loopg [5, 6] (l.length - (k + 1)) (fun gk iv jv wr => ∃ j : Nat, Hid (j + gk = l.length) ∧ jv = .int .i64 (j : Int) ∧ iv = .int .i64 ((keepO m e (l.take j)).length : Int) ∧ (∃ M, DelInv m e l M j ∧ wr.ownsRow base 95 4 (.slice (some ⟨g, 0, none⟩) l.length c) l.length (cellsO M)) ∧ Hid (∀ hs ls, Tab w base hs ls → Tab wr base hs ls) ∧ Below base w wr)
    case atStart => exact ⟨k + 1, by have := hkl2.out; show _ = _; omega, by go_num, by rw [HF2.out], ⟨l, HF1.out, hown1⟩, HT1.out, hbe1⟩
    case round =>
      obtain ⟨j, HJ, rfl, rfl, ⟨M, hM, hw⟩, HT, hb⟩ := hrel
      rcases gk with _ | gi
      · obtain rfl : j = l.length := HJ.out
        have hl2 := hless.out
        obtain ⟨w3, hcl, ho3, hb3, hle, ht3⟩ := own_clear (Nat.le_trans hbase hb.size) (i := (keepO m e l).length) hw hM.len hl2
        have HD := hM.done
        rw [HD] at ho3
        rw [List.take_length]
        have hl3 : (keepO m e l).length ≤ c := by omega
        have hl4 : ¬ (c = (keepO m e l).length) := by omega
        have hl5 : ((keepO m e l).length : Int) ≤ (l.length : Int) := by omega
        have hfin := Lib.hid (hb.trans hb3)
        have hfo := Lib.hid ho3
        have htf := Lib.hid (fun hs ls (h : Tab w base hs ls) => ht3 hs ls (HT.out hs ls h))
        clear hM HD hb3 ho3 hl2 ht3
        go_wp2_with (fail)
        go_ret
        exact ⟨some ⟨g, 0, none⟩, c, rfl, hfo.out, htf.out, hfin.out⟩
      · have hjl : j < l.length := by have := HJ.out; omega
        have hjl' : (j : Int) < (l.length : Int) := by omega
        have hij := keepO_take m e l j
        have hilen : (keepO m e (l.take j)).length < l.length := by omega
        have hilen' : ((keepO m e (l.take j)).length : Int) < (l.length : Int) := by omega
        obtain ⟨g', q, _, hgw, ⟨c0, c1, c2, c3⟩, _⟩ := own_getO hw hM.len hjl
        injection q with q
        injection q with q
        subst q
        rw [hM.get] at c0 c1 c2 c3
        have HS := Lib.hid (hM.skip hjl)
        have HP := Lib.hid (hM.put hjl)
        have hMl := Lib.hid hM.len
        clear hM
        obtain ⟨hcn, A1, n1, c4, hv⟩ := ho.out j hjl
        have HI2 := fun w1 (h : Bx w1 B 30 #[.int .i64 m, .int .i64 e]) => Lib.hid (chp1_c B m e A1 n1 c4 (l.getD j vo0).2.k (l.getD j vo0).2.p w1 hL.out hcn h)
        have hq : closeO m e (l.getD j vo0).2 = decide ((l.getD j vo0).2.p * e ≤ m * 2520) := rfl
        rw [← hq] at HI2
        have Hput : Hid (∀ (w3 : World), w3.ownsRow base 95 4 (.slice (some ⟨g, 0, none⟩) l.length c) l.length (cellsO M) → ((((w3.setCell ⟨g, (keepO m e (l.take j)).length * 4, none⟩ (.slice A1 n1 c4)).setCell ⟨g, (keepO m e (l.take j)).length * 4 + 1, none⟩ (.int .i64 (l.getD j vo0).2.k)).setCell ⟨g, (keepO m e (l.take j)).length * 4 + 2, none⟩ (.int .i64 (rat (l.getD j vo0).2.p).1)).setCell ⟨g, (keepO m e (l.take j)).length * 4 + 3, none⟩ (.int .i64 (rat (l.getD j vo0).2.p).2)).ownsRow base 95 4 (.slice (some ⟨g, 0, none⟩) l.length c) l.length (cellsO (M.set (keepO m e (l.take j)).length (l.getD j vo0)))) := fun w3 h3 => by
          have := own_put4 h3 (i := (keepO m e (l.take j)).length) (by rw [hMl.out]; exact hilen) (l.getD j vo0)
          rw [hv] at this; exact this
        rw [hv] at c0
        clear hq hv hcn
        generalize closeO m e (l.getD j vo0).2 = z at *
        generalize (l.getD j vo0).2.k = x1 at *
        generalize (rat (l.getD j vo0).2.p).1 = x2 at *
        generalize (rat (l.getD j vo0).2.p).2 = x3 at *
        generalize l.getD j vo0 = x at *
        generalize keepO m e (l.take j) = U at *
        have hxr := Lib.hid (HBX.out wr hb)
        cases z with
        | false =>
          obtain ⟨s1, s2⟩ := HS.out rfl
          have S1 := Lib.hid s1
          have S2 := Lib.hid s2
          clear s1 s2 HS HP Hput
          have hba := bl_alloc (Below.refl wr.heap.size wr) (.cells #[.slice A1 n1 c4, .int .i64 x1, .int .i64 x2, .int .i64 x3] 95)
          go_wp2_with (go_at_call 105; refine (HI2 _ (hxr.out.call hba)).out.mono ?_; rintro f w3 ⟨rfl, hb3⟩)
          have hb03 := bl_call hba hb3
          go_roundg gi
          case rel => exact ⟨j + 1, by have := HJ.out; show _ = _; omega, by go_num, by rw [S2.out], ⟨M, S1.out, own_call hw hb03⟩, fun hs ls h => (HT.out hs ls h).call hb03, hb.trans (hb03.mono (Nat.le_trans hbase hb.size))⟩
          case measure => omega
        | true =>
          obtain ⟨s1, s2⟩ := HP.out rfl
          have S1 := Lib.hid s1
          have S2 := Lib.hid s2
          clear s1 s2 HS HP
          have hba := bl_alloc (Below.refl wr.heap.size wr) (.cells #[.slice A1 n1 c4, .int .i64 x1, .int .i64 x2, .int .i64 x3] 95)
          go_wp2_with (fail)
          refine (HI2 _ (hxr.out.call hba)).out.mono ?_
          rintro f w3 ⟨rfl, hb3⟩
          have hb03 := bl_call hba hb3
          have ho3 := own_call hw hb03
          obtain ⟨y0, y1, y2, y3⟩ := ((Bx.new wr 95 #[.slice A1 n1 c4, .int .i64 x1, .int .i64 x2, .int .i64 x3]).call hb3).four
          have hgw3 : g < w3.heap.size := Nat.lt_of_lt_of_le hgw hb03.size
          obtain ⟨g2, q2, _, _, ⟨e0, e1, e2, e3⟩, _⟩ := own_getO ho3 hMl.out hilen
          injection q2 with q2
          injection q2 with q2
          subst q2
          have z0 := ho3.frozenAt (U.length * 4)
          have z1 := ho3.frozenAt (U.length * 4 + 1)
          have z2 := ho3.frozenAt (U.length * 4 + 2)
          have z3 := ho3.frozenAt (U.length * 4 + 3)
          have hput := Lib.hid (Hput.out w3 ho3)
          have hbw : Below base w w3 := hb.trans (hb03.mono (Nat.le_trans hbase hb.size))
          have hbs := Lib.hid ((((hbw.setCell (p := ⟨g, U.length * 4, none⟩) hbg (.slice A1 n1 c4)).setCell (p := ⟨g, U.length * 4 + 1, none⟩) hbg (.int .i64 x1)).setCell (p := ⟨g, U.length * 4 + 2, none⟩) hbg (.int .i64 x2)).setCell (p := ⟨g, U.length * 4 + 3, none⟩) hbg (.int .i64 x3))
          have hts := Lib.hid (fun hs ls (h : Tab w base hs ls) => ((HT.out hs ls h).call hb03).put4 ho3 (U.length * 4) (.slice A1 n1 c4) (.int .i64 x1) (.int .i64 x2) (.int .i64 x3))
          have hgb : ¬ (g = wr.heap.size) := by omega
          clear c0 c1 c2 c3 Hput
          go_wp2_with (fail)
          go_roundg gi
          case rel => exact ⟨j + 1, by have := HJ.out; show _ = _; omega, by go_num, by rw [S2.out]; go_num, ⟨_, S1.out, hput.out⟩, hts.out, hbs.out⟩
          case measure => omega
end Go.Proofs.Ytgbjglkiaoplmaa
