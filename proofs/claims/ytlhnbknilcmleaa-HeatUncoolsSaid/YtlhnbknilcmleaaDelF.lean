/- slices.IndexFunc and slices.DeleteFunc at plans, with isCooling. -/
import Derived.Test.YtlhnbknilcmleaaSca
import Derived.Test.YtlhnbknilcmleaaOf
import Derived.Laws.CopyRow
namespace Go.Proofs.Ytlhnbknilcmleaa
open Go.RowKit

def uncL (l : List T3) : List T3 := l.filter fun a => !(a.1 == 2)
theorem uncL_len (l : List T3) : (uncL l).length ≤ l.length := List.length_filter_le _ _
theorem uncL_succ {l : List T3} {k : Nat} (h : k < l.length) : uncL (l.take (k + 1)) = if (l.getD k t0).1 == 2 then uncL (l.take k) else uncL (l.take k) ++ [l.getD k t0] := by
  have h2 : l.getD k t0 = l[k] := by simp [h]
  rw [List.take_succ_eq_append_getElem h, uncL, List.filter_append, ← h2]
  generalize l.getD k t0 = x
  by_cases e : x.1 = 2
  · rw [List.filter_cons_of_neg (by simp [e]), List.filter_nil, List.append_nil, e]; rfl
  · have q : (x.1 == 2) = false := by simpa using e
    rw [List.filter_cons_of_pos (by simp [q]), List.filter_nil, q]; rfl
theorem uncL_id {l : List T3} (h : ∀ j, j < l.length → (l.getD j t0).1 ≠ 2) : uncL l = l := by
  rw [uncL, List.filter_eq_self]
  intro a ha
  obtain ⟨j, hj, rfl⟩ := List.getElem_of_mem ha
  have := h j hj
  simpa [hj] using this
theorem uncL_first {l : List T3} {k : Nat} (hk : k < l.length) (h : ∀ j, j < k → (l.getD j t0).1 ≠ 2) (h2 : (l.getD k t0).1 = 2) : uncL (l.take (k + 1)) = l.take k := by
  rw [uncL_succ hk, h2]
  show uncL (l.take k) = _
  refine uncL_id fun j hj => ?_
  have hj' : j < k := by simp at hj; omega
  have e : (l.take k).getD j t0 = l.getD j t0 := by simp [hj']
  rw [e]; exact h j hj'
theorem uncL_less {l : List T3} {k : Nat} (hk : k < l.length) (h2 : (l.getD k t0).1 = 2) : (uncL l).length < l.length := by
  have hs : l = l.take k ++ l.drop k := (List.take_append_drop _ _).symm
  rw [hs, uncL, List.filter_append, List.drop_eq_getElem_cons hk]
  have h2' : l[k].1 = 2 := by have e : l.getD k t0 = l[k] := by simp [hk]
                              rw [← e]; exact h2
  rw [List.filter_cons_of_neg (by simp [h2']), List.length_append, List.length_append, List.length_cons]
  have a1 := List.length_filter_le (fun a : T3 => !(a.1 == 2)) (l.take k)
  have a2 := List.length_filter_le (fun a : T3 => !(a.1 == 2)) (l.drop (k + 1))
  omega

theorem cellsT_set3 : ∀ (M : List T3) (k : Nat) (x : T3), k < M.length → (((cellsT M).set (k * 3) (.int .i64 x.1)).set (k * 3 + 1) (.int .i64 x.2.1)).set (k * 3 + 2) (.int .i64 x.2.2) = cellsT (M.set k x)
  | [], k, x, h => by simp at h
  | a :: t, 0, x, _ => rfl
  | a :: t, k + 1, x, h => by
    have ih := cellsT_set3 t k x (by simpa using h)
    have e : (k + 1) * 3 = k * 3 + 1 + 1 + 1 := by omega
    rw [e]
    show Value.int .i64 a.1 :: .int .i64 a.2.1 :: .int .i64 a.2.2 :: ((((cellsT t).set (k * 3) _).set (k * 3 + 1) _).set (k * 3 + 2) _) = _
    rw [ih]
    rfl
theorem own_put3 {w : World} {base c n g : Nat} {T : TypeId} {M : List T3} (h : w.ownsRow base T 3 (.slice (some ⟨g, 0, none⟩) n c) n (cellsT M)) {i : Nat} (hi : i < M.length) (x : T3) :
    (((w.setCell ⟨g, i * 3, none⟩ (.int .i64 x.1)).setCell ⟨g, i * 3 + 1, none⟩ (.int .i64 x.2.1)).setCell ⟨g, i * 3 + 2, none⟩ (.int .i64 x.2.2)).ownsRow base T 3 (.slice (some ⟨g, 0, none⟩) n c) n (cellsT (M.set i x)) := by
  rw [← cellsT_set3 M i x hi]
  exact (((h.stored _ _).1.stored _ _).1.stored _ _).1

theorem zero_cells (n : Nat) : (Builtin.zeroCells (Value.agg #[.int .i64 0, .int .i64 0, .int .i64 0]).cells n).toList = cellsT (List.replicate n t0) := by
  apply List.ext_getElem?
  intro j
  by_cases hj : j < n * 3
  · have e : (cellsT (List.replicate n t0))[j]? = some (.int .i64 0) := by
      obtain ⟨h0, h1, h2⟩ := cellsT_get (List.replicate n t0) (j / 3) (by simp; omega)
      have hz : (List.replicate n t0).getD (j / 3) t0 = t0 := by
        rw [List.getD_eq_getElem?_getD, List.getElem?_replicate]; split <;> rfl
      rw [hz] at h0 h1 h2
      rcases (by omega : j = j / 3 * 3 ∨ j = j / 3 * 3 + 1 ∨ j = j / 3 * 3 + 2) with e | e | e
      · rw [← e] at h0; exact h0
      · rw [← e] at h1; exact h1
      · rw [← e] at h2; exact h2
    rw [e]
    rcases (by omega : j % 3 = 0 ∨ j % 3 = 1 ∨ j % 3 = 2) with e | e | e <;> simp [Builtin.zeroCells, hj, Value.cells, e]
  · rw [List.getElem?_eq_none (by simp [Builtin.zeroCells, Value.cells]; omega), List.getElem?_eq_none (by simp; omega)]
theorem run_clear_acts (w : World) (ty : TypeId) (g o n c : Nat) (cur : Array Value) (hg : w.heap[g]? = some (.cells cur 61 (0, 0))) (hfit : o + n * 3 ≤ cur.size) :
    (Builtin.clear_ #[22] ty #[.slice (some ⟨g, o, none⟩) n c]).run Try.prog w = .ok (.tuple #[]) (w.setRow g (cur.toList.take o ++ cellsT (List.replicate n t0) ++ cur.toList.drop (o + n * 3)).toArray) ∨ n = 0 := by
  rcases Nat.eq_zero_or_pos n with h0 | hn
  · exact .inr h0
  · left
    have hst := run_storeCells_at Try.prog g o 61 (cellsT (List.replicate n t0)) 0 cur w hg (by simpa using hfit) (cellsT_one _)
    simp only [Nat.add_zero] at hst
    have hl : (cellsT (List.replicate n t0)).length = n * 3 := by simp
    rw [hl] at hst
    obtain ⟨m, rfl⟩ : ∃ m, n = m + 1 := ⟨n - 1, by omega⟩
    simp [Builtin.clear_, run_underlying Try.underlying22, zero_cells, hst]

set_option maxRecDepth 100000 in
set_option maxHeartbeats 2000000 in
theorem indexA_c (A : Option Addr) (l : List T3) (c : Nat) (w : World) (hlen : l.length ≤ 1000) (hr : Rd w A (cellsT l)) :
    Calls Try.prog 85 #[.slice A l.length c, .func (.func 76) #[] #[]] w fun e w' => (∃ r : Int, e = .returned (.int .i64 r) ∧ ((r = -1 ∧ ∀ j, j < l.length → (l.getD j t0).1 ≠ 2) ∨ ∃ k : Nat, r = (k : Int) ∧ k < l.length ∧ (l.getD k t0).1 = 2 ∧ ∀ j, j < k → (l.getD j t0).1 ≠ 2)) ∧ Below w.heap.size w w' := by
  go_enter Try.func85, Try.ntmps85
  go_wp2_with (fail)
  go_loopg [8] l.length (fun gk iv wr => ∃ k : Nat, Hid (k + gk = l.length) ∧ iv = .int .i64 (k : Int) ∧ Hid (∀ j, j < k → (l.getD j t0).1 ≠ 2) ∧ Below w.heap.size w wr)
  case atStart => exact ⟨0, by simp [Hid], rfl, fun j h => absurd h (by omega), Below.refl _ _⟩
  case round =>
    obtain ⟨k, HK, rfl, HP, hb⟩ := hrel
    rcases gk with _ | gi
    · obtain rfl : k = l.length := HK.out
      go_wp2_with (fail)
      go_ret
      exact ⟨⟨-1, rfl, .inl ⟨rfl, HP.out⟩⟩, hb⟩
    · have hkl : k < l.length := by have := HK.out; omega
      have hkl' : (k : Int) < (l.length : Int) := by omega
      obtain ⟨b, o, rfl, _, c0, c1, c3⟩ := (hr.later hb).tri hkl
      have HX : Hid ((l.getD k t0).1 = 2 → ∃ r : Int, r = (k : Int) ∧ ((r = -1 ∧ ∀ j, j < l.length → (l.getD j t0).1 ≠ 2) ∨ ∃ k : Nat, r = (k : Int) ∧ k < l.length ∧ (l.getD k t0).1 = 2 ∧ ∀ j, j < k → (l.getD j t0).1 ≠ 2)) := fun h => ⟨_, rfl, .inr ⟨k, rfl, hkl, h, HP.out⟩⟩
      have HG : Hid ((l.getD k t0).1 ≠ 2 → ∀ j, j < k + 1 → (l.getD j t0).1 ≠ 2) := fun h j hj => by
        rcases Nat.lt_or_ge j k with x | x
        · exact HP.out j x
        · obtain rfl : j = k := by omega
          exact h
      generalize l.getD k t0 = x at c0 c1 c3 HX HG
      obtain ⟨x0, x1, x2⟩ := x
      simp only [] at c0 c1 c3 HX HG
      have HI := fun w1 => Lib.hid (isCooling_c x0 x1 x2 w1)
      by_cases hx : x0 = 2
      · obtain ⟨r, hr1, hr2⟩ := HX.out hx
        have q : (x0 == 2) = true := by simpa using hx
        rw [q] at HI
        have HR := Lib.hid hr2
        have HR1 := Lib.hid hr1
        clear hx q hr1 hr2
        go_wp2_with (go_at_call 76; refine (HI _).out.mono ?_; rintro e w3 ⟨rfl, hb3⟩)
        go_ret
        exact ⟨⟨r, by rw [HR1.out]; rfl, HR.out⟩, bl_call hb hb3⟩
      · have HX2 := Lib.hid (HG.out hx)
        have q : (x0 == 2) = false := by simpa using hx
        rw [q] at HI
        clear hx q
        go_wp2_with (go_at_call 76; refine (HI _).out.mono ?_; rintro e w3 ⟨rfl, hb3⟩)
        go_roundg gi
        case rel => exact ⟨k + 1, by have := HK.out; show _ = _; omega, by go_num, HX2.out, bl_call hb hb3⟩
        case measure => omega

/-- What the loop of DeleteFunc keeps. -/
structure DelInv (l : List T3) (M : List T3) (j : Nat) : Prop where
  len : M.length = l.length
  pre : M.take (uncL (l.take j)).length = uncL (l.take j)
  suf : M.drop j = l.drop j
theorem DelInv.get {l M : List T3} {j : Nat} (h : DelInv l M j) : M.getD j t0 = l.getD j t0 := by
  have h1 : M.getD j t0 = (M.drop j).getD 0 t0 := by simp
  have h2 : l.getD j t0 = (l.drop j).getD 0 t0 := by simp
  rw [h1, h2, h.suf]
theorem unc_take (l : List T3) (j : Nat) : (uncL (l.take j)).length ≤ j := by
  have := uncL_len (l.take j)
  rw [List.length_take] at this; omega
theorem drop_next {l M : List T3} {j : Nat} (h : M.drop j = l.drop j) : M.drop (j + 1) = l.drop (j + 1) := by
  have := congrArg (List.drop 1) h
  simpa [List.drop_drop, Nat.add_comm] using this
theorem DelInv.skip {l M : List T3} {j : Nat} (h : DelInv l M j) (hj : j < l.length) (hc : (l.getD j t0).1 = 2) : DelInv l M (j + 1) ∧ (uncL (l.take (j + 1))).length = (uncL (l.take j)).length := by
  have e : uncL (l.take (j + 1)) = uncL (l.take j) := by rw [uncL_succ hj, hc]; rfl
  exact ⟨⟨h.len, by rw [e]; exact h.pre, drop_next h.suf⟩, by rw [e]⟩
theorem DelInv.put {l M : List T3} {j : Nat} (h : DelInv l M j) (hj : j < l.length) (hc : (l.getD j t0).1 ≠ 2) : DelInv l (M.set (uncL (l.take j)).length (l.getD j t0)) (j + 1) ∧ (uncL (l.take (j + 1))).length = (uncL (l.take j)).length + 1 := by
  have q : ((l.getD j t0).1 == 2) = false := by simpa using hc
  have e : uncL (l.take (j + 1)) = uncL (l.take j) ++ [l.getD j t0] := by rw [uncL_succ hj, q]; rfl
  have hi := unc_take l j
  have hl := h.len
  have hp := h.pre
  have hd := drop_next h.suf
  rw [e]
  generalize uncL (l.take j) = U at *
  generalize l.getD j t0 = x at *
  refine ⟨⟨by rw [List.length_set]; exact hl, ?_, ?_⟩, by simp⟩
  · rw [e, List.length_append, List.length_singleton, List.take_succ_eq_append_getElem (by rw [List.length_set]; omega), List.getElem_set_self, List.take_set_of_le (Nat.le_refl _), hp]
  · rw [List.drop_set, if_pos (by omega)]; exact hd
theorem DelInv.first {l : List T3} {k : Nat} (hk : k < l.length) (h : ∀ j, j < k → (l.getD j t0).1 ≠ 2) (h2 : (l.getD k t0).1 = 2) : DelInv l l (k + 1) ∧ (uncL (l.take (k + 1))).length = k := by
  have e := uncL_first hk h h2
  have hl : (l.take k).length = k := by simp; omega
  exact ⟨⟨rfl, by rw [e, hl], rfl⟩, by rw [e, hl]⟩
theorem DelInv.done {l M : List T3} (h : DelInv l M l.length) : M.take (uncL l).length = uncL l := by
  have := h.pre
  rwa [List.take_length] at this

/-- The rest is cleared, the beginning stays. -/
theorem own_clear {w : World} {base n c g i : Nat} {M : List T3} (hb : base ≤ w.heap.size) (h : w.ownsRow base 61 3 (.slice (some ⟨g, 0, none⟩) n c) n (cellsT M)) (hM : M.length = n) (hi : i < n) :
    ∃ w', (∀ ty, (Builtin.clear_ #[22] ty #[.slice (some ⟨g, i * 3, none⟩) (n - i) (c - i)]).run Try.prog w = .ok (.tuple #[]) w') ∧ w'.ownsRow base 61 3 (.slice (some ⟨g, 0, none⟩) i c) i (cellsT (M.take i)) ∧ Below base w w' ∧ n ≤ c := by
  rcases h.2 with ⟨h0, _⟩ | ⟨g', cap, cur, hv, hbg, hheap, hle, hm, hsz, hpre⟩
  · cases h0
  injection hv with hA _ hc
  injection hA with hA
  injection hA with hA
  subst hA hc
  have hfit : i * 3 + (n - i) * 3 ≤ cur.size := by rw [hsz]; omega
  have hsl : cur.toList.length = c * 3 := by simpa using hsz
  refine ⟨_, fun ty => (run_clear_acts w ty g (i * 3) (n - i) (c - i) cur hheap hfit).resolve_right (by omega), ⟨by simp; omega, .inr ⟨g, c, _, rfl, hbg, setRow_heap w g cur _ _ _ hheap, by omega, hm, ?_, ?_⟩⟩, ?_, hle⟩
  · simp; omega
  · have hl1 : (cur.toList.take (i * 3)).length = i * 3 := by rw [List.length_take]; omega
    show List.take (i * 3) (cur.toList.take (i * 3) ++ cellsT (List.replicate (n - i) t0) ++ cur.toList.drop (i * 3 + (n - i) * 3)) = _
    rw [List.append_assoc, List.take_append_of_le_length (by omega), List.take_take, Nat.min_self, ← cellsT_take, ← hpre, List.take_take]
    congr 1; omega
  · have hg : w.grownBy (w.setRow g (cur.toList.take (i * 3) ++ cellsT (List.replicate (n - i) t0) ++ cur.toList.drop (i * 3 + (n - i) * 3)).toArray) (some g) := by
      refine ⟨rfl, rfl, rfl, by rw [setRow_size]; exact Nat.le_refl _, fun k hk hne => ?_⟩
      have hne' : k ≠ g := fun e => hne (by rw [e])
      rw [setRow_other _ _ _ _ hne']
    exact (Below.refl base w).grown hg (by omega) (fun k e => by cases e; exact hbg)

set_option maxRecDepth 100000 in
set_option maxHeartbeats 4000000 in
theorem deleteA_c (base : Nat) (A : Option Addr) (l : List T3) (c : Nat) (w : World) (hlen : l.length ≤ 1000) (hbase : base ≤ w.heap.size) (hown : w.ownsRow base 61 3 (.slice A l.length c) l.length (cellsT l)) :
    Calls Try.prog 74 #[.slice A l.length c, .func (.func 76) #[] #[]] w fun e w' => ∃ A' c', e = .returned (.slice A' (uncL l).length c') ∧ w'.ownsRow base 61 3 (.slice A' (uncL l).length c') (uncL l).length (cellsT (uncL l)) ∧ Below base w w' := by
  have HI := Lib.hid (indexA_c A l c w hlen (own_rd hown).1)
  go_enter Try.func74, Try.ntmps74
  go_wp2_with (fail)
  refine HI.out.mono ?_
  rintro e w1 ⟨⟨r, rfl, hr⟩, hb1⟩
  have hown1 := own_call hown hb1
  have hbe1 : Below base w w1 := (Below.refl base w).trans (hb1.mono hbase)
  rcases hr with ⟨rfl, hno⟩ | ⟨k, rfl, hkl, hk2, hkn⟩
  · have hu := Lib.hid (uncL_id hno)
    clear hno
    go_wp2_with (fail)
    go_ret
    exact ⟨A, c, by rw [hu.out]; rfl, by rw [hu.out]; exact hown1, hbe1⟩
  · have hn1 : ¬ ((k : Int) = -1) := by omega
    obtain ⟨g, rfl, hbg, hgl, _⟩ := own_putT (k := k) hown1 rfl hkl
    have hless := Lib.hid (uncL_less hkl hk2)
    obtain ⟨hf1, hf2⟩ := DelInv.first hkl hkn hk2
    have HF1 := Lib.hid hf1
    have HF2 := Lib.hid hf2
    have hkl2 := Lib.hid hkl
    clear hkn hk2 hf1 hf2 hn1 hown
    go_wp2_with (fail)
    go_loopg [5, 6] (l.length - (k + 1)) (fun gk iv jv wr => ∃ j : Nat, Hid (j + gk = l.length) ∧ jv = .int .i64 (j : Int) ∧ iv = .int .i64 ((uncL (l.take j)).length : Int) ∧ (∃ M, DelInv l M j ∧ wr.ownsRow base 61 3 (.slice (some ⟨g, 0, none⟩) l.length c) l.length (cellsT M)) ∧ Below base w wr)
    case atStart => exact ⟨k + 1, by have := hkl2.out; show _ = _; omega, by go_num, by rw [HF2.out], ⟨l, HF1.out, hown1⟩, hbe1⟩
    case round =>
      obtain ⟨j, HJ, rfl, rfl, ⟨M, hM, ho⟩, hb⟩ := hrel
      rcases gk with _ | gi
      · obtain rfl : j = l.length := HJ.out
        have hl2 := hless.out
        obtain ⟨w3, hcl, ho3, hb3, hle⟩ := own_clear (Nat.le_trans hbase hb.size) ho hM.len hl2
        have HD := hM.done
        rw [HD] at ho3
        rw [List.take_length]
        have hl3 : (uncL l).length ≤ c := by omega
        have hl4 : ¬ (c = (uncL l).length) := by omega
        have hl5 : ((uncL l).length : Int) ≤ (l.length : Int) := by omega
        have hfin := Lib.hid (hb.trans hb3)
        have hfo := Lib.hid ho3
        clear hM HD hb3 ho3 hl2
        go_wp2_with (fail)
        go_ret
        exact ⟨some ⟨g, 0, none⟩, c, rfl, hfo.out, hfin.out⟩
      · have hjl : j < l.length := by have := HJ.out; omega
        have hjl' : (j : Int) < (l.length : Int) := by omega
        have hij := unc_take l j
        have hilen : (uncL (l.take j)).length < l.length := by omega
        have hilen' : ((uncL (l.take j)).length : Int) < (l.length : Int) := by omega
        obtain ⟨g', e, _, hgw, ⟨c0, c1, c3⟩, _, _⟩ := own_putT ho hM.len hjl
        injection e with e
        injection e with e
        subst e
        rw [hM.get] at c0 c1 c3
        have HS := Lib.hid (hM.skip hjl)
        have HP := Lib.hid (hM.put hjl)
        have hMl := Lib.hid hM.len
        clear hM
        generalize uncL (l.take j) = U at *
        generalize l.getD j t0 = x at *
        obtain ⟨x0, x1, x2⟩ := x
        simp only [] at c0 c1 c3 HS HP
        have HI2 := fun w1 => Lib.hid (isCooling_c x0 x1 x2 w1)
        have hba := bl_alloc (Below.refl wr.heap.size wr) (.cells #[.int .i64 x0, .int .i64 x1, .int .i64 x2] 61)
        by_cases hx : x0 = 2
        · obtain ⟨s1, s2⟩ := HS.out hx
          have S1 := Lib.hid s1
          have S2 := Lib.hid s2
          have q : (x0 == 2) = true := by simpa using hx
          rw [q] at HI2
          clear hx q s1 s2 HS HP
          go_wp2_with (go_at_call 76; refine (HI2 _).out.mono ?_; rintro e w3 ⟨rfl, hb3⟩)
          have hb03 := bl_call hba hb3
          go_roundg gi
          case rel => exact ⟨j + 1, by have := HJ.out; show _ = _; omega, by go_num, by rw [S2.out], ⟨M, S1.out, own_call ho hb03⟩, hb.trans (hb03.mono (Nat.le_trans hbase hb.size))⟩
          case measure => omega
        · obtain ⟨s1, s2⟩ := HP.out hx
          have S1 := Lib.hid s1
          have S2 := Lib.hid s2
          have q : (x0 == 2) = false := by simpa using hx
          rw [q] at HI2
          clear hx q s1 s2 HS HP
          go_wp2_with (fail)
          refine (HI2 _).out.mono ?_
          rintro e w3 ⟨rfl, hb3⟩
          have hb03 := bl_call hba hb3
          have ho3 := own_call ho hb03
          obtain ⟨y0, y1, y2, _, _, _⟩ := ((Bx.new wr 61 #[.int .i64 x0, .int .i64 x1, .int .i64 x2]).call hb3).three
          obtain ⟨g', e, _, hgw3, ⟨z0, z1, z2⟩, z5, _⟩ := own_putT (k := U.length) ho3 hMl.out hilen
          injection e with e
          injection e with e
          subst e
          have z3 := ho3.frozenAt (U.length * 3)
          have z4 := ho3.frozenAt (U.length * 3 + 1)
          have hput := Lib.hid (own_put3 ho3 (i := U.length) (by rw [hMl.out]; exact hilen) (x0, x1, x2))
          have hbw : Below base w w3 := hb.trans (hb03.mono (Nat.le_trans hbase hb.size))
          have hbs := Lib.hid (((hbw.setCell (p := ⟨g, U.length * 3, none⟩) hbg (.int .i64 x0)).setCell (p := ⟨g, U.length * 3 + 1, none⟩) hbg (.int .i64 x1)).setCell (p := ⟨g, U.length * 3 + 2, none⟩) hbg (.int .i64 x2))
          have hgb : ¬ (g = wr.heap.size) := by omega
          clear c0 c1 c3
          go_wp2_with (fail)
          go_roundg gi
          case rel => exact ⟨j + 1, by have := HJ.out; show _ = _; omega, by go_num, by rw [S2.out]; go_num, ⟨_, S1.out, hput.out⟩, hbs.out⟩
          case measure => omega
end Go.Proofs.Ytlhnbknilcmleaa
