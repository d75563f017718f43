/- slices.Delete of one item; a budget without an item: package budget's Without and the document's. -/
import Derived.Test.YtgbjglkiaoplmaaScl
import Derived.Test.YtgbjglkiaoplmaaVfx
import Derived.Laws.CopyRow
import Derived.Deep.RegionLaw
namespace Go.Proofs.Ytgbjglkiaoplmaa
open Go.RowKit

/-- append onto the beginning of a row where there is room, as one step of a region that draws. -/
theorem step_append_row {P : Program} {ops : Array Oper} {o : Oper} {a : Act} {w : World} {K : Act → World → Prop} {Q : Exit → Act → World → Prop} {E : Prop}
    (hg : o.guard = none) (s x : Operand) (t : TypeId) (hop : o.op = Op.call { callee := Callee.builtin Builtin.append, args := #[s, x], argTypes := #[t, t] })
    (e : TypeId) (i : TypeInfo) (h1 : P.underlying t = some (.slice e)) (h2 : P.info? e = some i) (hsz : i.size = 3)
    (g n cap : Nat) (cur : Array Value) (hs : a.eval s = .slice (some ⟨g, 0, none⟩) n cap) (hcur : w.heap[g]? = some (.cells cur e (0, 0)))
    (ad : Addr) (m c : Nat) (news : List Value) (hx : a.eval x = .slice (some ad) m c) (hn : news.length = m * 3) (hc : ∀ j u, news[j]? = some u → w.cell? (ad.add j) = some u) (h1c : ∀ u ∈ news, u.oneCell' = true)
    (hroom : n + m ≤ cap) (hfit : n * 3 + news.length ≤ cur.size)
    (hK : K (a.put o.dst (.slice (some ⟨g, 0, none⟩) (n + m) cap)) (w.setRow g (cur.toList.take (n * 3) ++ news ++ cur.toList.drop (n * 3 + news.length)).toArray)) :
    if Region.wanted o (yielded ops a.tmps) = true then Oper.wp P o a w K Q else E := by
  have hw : Region.wanted o (yielded ops a.tmps) = true := by simp [Region.wanted, hg]
  rw [if_pos hw]
  have hrun := run_append_room (P := P) w t o.type e i h1 h2 g n cap cur hcur ad m c news (by rw [hsz]; exact hn) hc h1c hroom (by rw [hsz]; exact hfit)
  rw [hsz] at hrun
  unfold Oper.wp execOp
  simp only [hop, resolve, invoke, builtin, Sem.run_bind, Sem.run_pure, Result.andThen_ok, List.map_toArray, List.map_cons, List.map_nil, hs, hx, hrun]
  exact hK

/-- clear of one gate of a row. -/
theorem run_clear_item {P : Program} (w : World) (t e ty : TypeId) (ht : P.underlying t = some (.slice e)) (hv : ∀ w, (zeroValue e).run P w = .ok (.agg #[.int .i64 0, .int .i64 0, .int .i64 0]) w)
    (g o c : Nat) (cur : Array Value) (hg : w.heap[g]? = some (.cells cur e (0, 0))) (hfit : o + 3 ≤ cur.size) :
    (Builtin.clear_ #[t] ty #[.slice (some ⟨g, o, none⟩) 1 c]).run P w = .ok (.tuple #[]) (w.setRow g (cur.toList.take o ++ cellsI [it0] ++ cur.toList.drop (o + 3)).toArray) := by
  have hzc : (Builtin.zeroCells (Value.agg #[.int .i64 0, .int .i64 0, .int .i64 0]).cells 1).toList = cellsI [it0] := by kernel_rfl
  have hst := run_storeCells_at P g o e (cellsI [it0]) 0 cur w hg (by simpa using hfit) (by decide)
  simp only [Nat.add_zero] at hst
  have hl : (cellsI [it0]).length = 3 := rfl
  rw [hl] at hst
  simp [Builtin.clear_, run_underlying ht, hv, hzc, hst]

theorem item_zero : ∀ w, (zeroValue 50).run Try.prog w = .ok (.agg #[.int .i64 0, .int .i64 0, .int .i64 0]) w := by
  obtain ⟨i0, hi, hz0, hz1, hz2⟩ := info_parts item_info
  intro w
  simp [zeroValue, typeInfo, hi, hz0]

theorem cellsI_erase (l : List It) (i : Nat) : cellsI (l.eraseIdx i) = (cellsI l).take (i * 3) ++ (cellsI l).drop ((i + 1) * 3) := by
  rw [List.eraseIdx_eq_take_drop_succ, cellsI_app, cellsI_take, cellsI_drop]
set_option maxRecDepth 100000 in
set_option maxHeartbeats 1000000 in
theorem deleteIt_c (base : Nat) (A : Option Addr) (l : List It) (c i : Nat) (w : World) (hlen : l.length ≤ 1000) (hi : i < l.length) (hown : w.ownsRow base 50 3 (.slice A l.length c) l.length (cellsI l)) :
    Calls Try.prog 98 #[.slice A l.length c, .int .i64 i, .int .i64 ((i : Int) + 1)] w fun e w' => e = .returned (.slice A (l.eraseIdx i).length c) ∧ w'.ownsRow base 50 3 (.slice A (l.eraseIdx i).length c) (l.eraseIdx i).length (cellsI (l.eraseIdx i)) ∧ Below base w w' := by
  obtain ⟨i0, hinf, hz0, hz1, hz2⟩ := info_parts item_info
  rcases hown.2 with ⟨h0, hn0⟩ | ⟨g, cap, cur, hv, hbg, hheap, hle, hm, hsz, hpre⟩
  · omega
  injection hv with hA _ hc
  subst hA hc
  have hel : (l.eraseIdx i).length = l.length - 1 := by rw [List.length_eraseIdx]; simp [hi]
  obtain ⟨news, hnews⟩ : ∃ news, news = cellsI (l.drop (i + 1)) := ⟨_, rfl⟩
  have hnl : news.length = (l.length - (i + 1)) * 3 := by rw [hnews]; simp
  obtain ⟨B, hB, hsrc⟩ : ∃ B : Addr, (if c = i + 1 then some (⟨g, 0, none⟩ : Addr) else some ⟨g, (i + 1) * 3, none⟩) = some B ∧ Hid (∀ t u, news[t]? = some u → w.drew.cell? (B.add t) = some u) := by
    by_cases h : c = i + 1
    · refine ⟨⟨g, 0, none⟩, by simp [h], fun t u hu => ?_⟩
      have h0 : news.length = 0 := by rw [hnl]; omega
      rw [List.length_eq_zero_iff.1 h0] at hu
      simp at hu
    · refine ⟨⟨g, (i + 1) * 3, none⟩, by simp [h], fun t u hu => ?_⟩
      have hu2 : (cellsI l)[(i + 1) * 3 + t]? = some u := by
        rw [hnews, ← cellsI_drop, List.getElem?_drop] at hu
        exact hu
      have := hown.cells (g := g) rfl _ u hu2
      have e1 : ∀ k, (⟨g, 0, none⟩ : Addr).add k = ⟨g, k, none⟩ := fun k => by unfold Addr.add; split <;> simp_all
      have e2 : (⟨g, (i + 1) * 3, none⟩ : Addr).add t = ⟨g, (i + 1) * 3 + t, none⟩ := by unfold Addr.add; split <;> simp_all
      rw [e2]
      rw [e1] at this
      exact this
  have hsz1 : cur.toList.length = c * 3 := by simpa using hsz
  -- the row behind the append
  obtain ⟨cur1, hcur1⟩ : ∃ cur1, cur1 = (cur.toList.take (i * 3) ++ news ++ cur.toList.drop (i * 3 + news.length)).toArray := ⟨_, rfl⟩
  have hs1 : cur1.size = c * 3 := by rw [hcur1]; simp; omega
  have hp1 : cur1.toList.take ((l.length - 1) * 3) = cellsI (l.eraseIdx i) := by
    have h1 : cur.toList.take (i * 3) = (cellsI l).take (i * 3) := by
      rw [← hpre, List.take_take]; congr 1; omega
    rw [hcur1, cellsI_erase, cellsI_drop, ← hnews, ← h1]
    have hl1 : (cur.toList.take (i * 3) ++ news).length = (l.length - 1) * 3 := by simp; omega
    show List.take ((l.length - 1) * 3) (cur.toList.take (i * 3) ++ news ++ cur.toList.drop (i * 3 + news.length)) = _
    rw [← hl1, List.take_left']
    rfl
  obtain ⟨W1, hW1⟩ : ∃ W1, W1 = w.drew.setRow g cur1 := ⟨_, rfl⟩
  have hh1 : W1.heap[g]? = some (.cells cur1 50 (0, 0)) := by rw [hW1]; exact setRow_heap w.drew g cur cur1 _ _ hheap
  obtain ⟨cur2, hcur2⟩ : ∃ cur2, cur2 = (cur1.toList.take ((l.length - 1) * 3) ++ cellsI [it0] ++ cur1.toList.drop ((l.length - 1) * 3 + 3)).toArray := ⟨_, rfl⟩
  have hcl : ∀ ty, (Builtin.clear_ #[22] ty #[.slice (some ⟨g, (i + (l.length - (i + 1))) * 3, none⟩) (l.length - (i + (l.length - (i + 1)))) (c - (i + (l.length - (i + 1))))]).run Try.prog W1 = .ok (.tuple #[]) (W1.setRow g cur2) := fun ty => by
    rw [hcur2, show i + (l.length - (i + 1)) = l.length - 1 by omega, show l.length - (l.length - 1) = 1 by omega]
    exact run_clear_item W1 22 50 ty Try.underlying22 item_zero g _ _ cur1 hh1 (by omega)
  have HF : Hid ((W1.setRow g cur2).ownsRow base 50 3 (.slice (some ⟨g, 0, none⟩) (l.eraseIdx i).length c) (l.eraseIdx i).length (cellsI (l.eraseIdx i)) ∧ Below base w (W1.setRow g cur2)) := by
    refine ⟨⟨by simp, .inr ⟨g, c, cur2, rfl, hbg, setRow_heap W1 g cur1 cur2 _ _ hh1, by omega, hm, ?_, ?_⟩⟩, ?_⟩
    · rw [hcur2]; simp [cellsI]; omega
    · rw [hel, ← hp1, hcur2]
      have hl1 : (cur1.toList.take ((l.length - 1) * 3)).length = (l.length - 1) * 3 := by simp; omega
      show List.take ((l.length - 1) * 3) (cur1.toList.take ((l.length - 1) * 3) ++ cellsI [it0] ++ cur1.toList.drop ((l.length - 1) * 3 + 3)) = _
      rw [List.append_assoc, List.take_append_of_le_length (by omega), List.take_take, Nat.min_self]
    · have hg : w.grownBy (W1.setRow g cur2) (some g) := by
        refine ⟨by rw [hW1]; rfl, by rw [hW1]; rfl, by rw [hW1]; rfl, by rw [hW1, setRow_size, setRow_size]; exact Nat.le_refl _, fun k hk hne => ?_⟩
        have hne' : k ≠ g := fun e => hne (by rw [e])
        rw [setRow_other _ _ _ _ hne', hW1, setRow_other _ _ _ _ hne']
        rfl
      have hlt : g < w.heap.size := (Array.getElem?_eq_some_iff.1 hheap).1
      exact (Below.refl base w).grown hg (by omega) (fun k e => by cases e; exact hbg)
  have hic : i ≤ c := by omega
  have hjc : i + 1 ≤ c := by omega
  have hza : (0 : Int) ≤ (i : Int) + 1 := by omega
  have hzb : (i : Int) + 1 ≤ (l.length : Int) := by omega
  have hhd : Hid (w.drew.heap[g]? = some (.cells cur 50 (0, 0))) := hheap
  have hone : Hid (∀ u ∈ news, u.oneCell' = true) := by rw [hnews]; exact cellsI_one _
  have hnl' : Hid (news.length = (l.length - (i + 1)) * 3) := hnl
  have hfit : Hid (i * 3 + news.length ≤ cur.size) := by show _ ≤ _; omega
  have hc1 : Hid (cur1 = (cur.toList.take (i * 3) ++ news ++ cur.toList.drop (i * 3 + news.length)).toArray) := hcur1
  have hw1 : Hid (W1 = w.drew.setRow g cur1) := hW1
  have hel' : Hid ((l.eraseIdx i).length = l.length - 1) := hel
  clear hnews hnl hcur1 hs1 hp1 hcur2 hh1 hW1 hsz1 hpre hsz hheap hown hel
  go_enter Try.func98, Try.ntmps98
  go_wp2_with (fail)
  go_region_law (refine step_append_row rfl (.tmp 22) (.tmp 25) 22 rfl 50 i0 Try.underlying22 hinf hz1 g i c cur (by simp [Act.eval, Act.put]) hhd.out B (l.length - (i + 1)) (c - (i + 1)) news (by simp [Act.eval, Act.put]) hnl'.out hsrc.out hone.out (by omega) hfit.out ?_; rw [← hc1.out, ← hw1.out])
  go_wp2_with (fail)
  go_ret
  exact ⟨by rw [hel'.out]; simp; omega, HF.out⟩

/-- One row of items with another one behind it. -/
theorem grow_items (w : World) (base : Nat) (v : Value) (l m : List It) (B : Option Addr) (c : Nat) (hown : w.ownsRow base 50 3 v l.length (cellsI l)) (hr : Rd w B (cellsI m)) (h1 : l.length ≤ 100000) (h2 : m.length ≤ 100000) (hb : base ≤ w.heap.size) :
    ∃ A' c' w', (∀ ty, (Builtin.append_ #[22, 22] ty #[v, .slice B m.length c]).run Try.prog w = .ok (.slice A' (l.length + m.length) c') w') ∧ w'.ownsRow base 50 3 (.slice A' (l.length + m.length) c') (l.length + m.length) (cellsI (l ++ m)) ∧ Below base w w' :=
  append_items base w v l B m c hown hr h1 h2 hb
def witE (l : List It) (k : Int) : Int := if valE l = 0 then (if 0 ≤ k ∧ k < (l.length : Int) then 0 else 4) else valE l
def witL (l : List It) (k : Int) : List It := if witE l k = 0 then l.eraseIdx k.toNat else []
theorem witE_cases (l : List It) (k : Int) : (valE l ≠ 0 ∧ witE l k = valE l ∧ witL l k = []) ∨ (valE l = 0 ∧ ¬ (0 ≤ k ∧ k < (l.length : Int)) ∧ witE l k = 4 ∧ witL l k = []) ∨ (valE l = 0 ∧ ∃ i : Nat, k = (i : Int) ∧ i < l.length ∧ witE l k = 0 ∧ witL l k = l.eraseIdx i) := by
  by_cases hv : valE l = 0
  · by_cases h1 : 0 ≤ k ∧ k < (l.length : Int)
    · obtain ⟨i, rfl⟩ := Int.eq_ofNat_of_zero_le h1.1
      have e : witE l i = 0 := by rw [witE, if_pos hv, if_pos h1]
      exact .inr (.inr ⟨hv, i, rfl, by omega, e, by rw [witL, if_pos e, Int.toNat_natCast]⟩)
    · have e : witE l k = 4 := by rw [witE, if_pos hv, if_neg h1]
      exact .inr (.inl ⟨hv, h1, e, by rw [witL, e]; rfl⟩)
  · have e : witE l k = valE l := by rw [witE, if_neg hv]
    exact .inl ⟨hv, e, by rw [witL, e, if_neg hv]⟩
def vitE (l : List It) (k : Int) : Int := witE l k
set_option maxHeartbeats 2000000 in
theorem validateItem_c (A : Option Addr) (l : List It) (c : Nat) (k : Int) (w : World) (hlen : l.length ≤ 1000) (hr : Rd w A (cellsI l)) :
    Calls Try.prog 90 #[.slice A l.length c, .int .i64 k] w fun e w' => e = .returned (.int .i64 (vitE l k)) ∧ Below w.heap.size w w' := by
  have HV := Lib.hid (Validate_c A l c w hlen hr)
  have HI := fun w => Lib.hid (isItem_c A l c k w)
  unfold vitE
  by_cases hv : valE l = 0
  · rw [hv] at HV
    by_cases h1 : 0 ≤ k ∧ k < (l.length : Int)
    · have hb : itemB l k = true := decide_eq_true h1
      have e : witE l k = 0 := by rw [witE, if_pos hv, if_pos h1]
      rw [hb] at HI
      rw [e]
      clear hb e hv h1
      go_enter Try.func90, Try.ntmps90
      go_wp2_with (fail)
      refine HV.out.mono ?_
      rintro e w1 ⟨rfl, hb1⟩
      go_wp2_with (fail)
      refine (HI _).out.mono ?_
      rintro e w2 ⟨rfl, rfl⟩
      go_wp2_with (fail)
      go_ret
      exact ⟨rfl, hb1⟩
    · have hb : itemB l k = false := decide_eq_false h1
      have e : witE l k = 4 := by rw [witE, if_pos hv, if_neg h1]
      rw [hb] at HI
      rw [e]
      clear hb e hv h1
      go_enter Try.func90, Try.ntmps90
      go_wp2_with (fail)
      refine HV.out.mono ?_
      rintro e w1 ⟨rfl, hb1⟩
      go_wp2_with (fail)
      refine (HI _).out.mono ?_
      rintro e w2 ⟨rfl, rfl⟩
      go_wp2_with (fail)
      go_ret
      exact ⟨rfl, hb1⟩
  · have e : witE l k = valE l := by rw [witE, if_neg hv]
    have hv' : (valE l == 0) = false := by rw [beq_eq_false_iff_ne]; exact hv
    rw [e]
    clear e
    generalize valE l = z at *
    go_enter Try.func90, Try.ntmps90
    go_wp2_with (fail)
    refine HV.out.mono ?_
    rintro e w1 ⟨rfl, hb1⟩
    go_wp2_with (fail)
    go_ret
    exact ⟨rfl, hb1⟩
set_option maxRecDepth 100000 in
set_option maxHeartbeats 2000000 in
theorem Without_c (A : Option Addr) (l : List It) (c : Nat) (k : Int) (w : World) (hlen : l.length ≤ 1000) (hr : Rd w A (cellsI l)) :
    Calls Try.prog 58 #[.slice A l.length c, .int .i64 k] w (OutIt (witL l k) (witE l k) w) := by
  have HV := Lib.hid (validateItem_c A l c k w hlen hr)
  unfold vitE at HV
  by_cases hz : witE l k = 0
  · rcases witE_cases l k with ⟨hv, hE, hL⟩ | ⟨hv, h1, hE, hL⟩ | ⟨hv, i, rfl, hil, hE, hL⟩
    · rw [hE] at hz; exact absurd hz hv
    · rw [hE] at hz; cases hz
    · have HC := fun w1 h => Lib.hid (cloneI_c A l c w1 hlen h)
      have HD := fun base A' c' w1 h => Lib.hid (deleteIt_c base A' l c' i w1 hlen hil h)
      rw [hE] at HV
      rw [hE, hL]
      have hib : (i : Int) ≤ 1000 := by omega
      have hw : wrap64 ((i : Int) + 1) = (i : Int) + 1 := IntWalk.wrap64_in _ ⟨by omega, by omega⟩
      clear hE hL hv hz
      go_enter Try.func58, Try.ntmps58
      go_wp2_with (fail)
      refine HV.out.mono ?_
      rintro e w1 ⟨rfl, hb1⟩
      go_wp2_with (fail)
      refine (HC _ (hr.later hb1)).out.mono ?_
      rintro e w3 ⟨A3, c3, rfl, ho3, hb3⟩
      have ho3' := own_base ho3 hb1.size
      have hb13 := bl_call hb1 hb3
      go_wp2_with (fail)
      refine (HD w.heap.size A3 c3 w3 ho3').out.mono ?_
      rintro e w4 ⟨rfl, ho4, hb4⟩
      go_wp2_with (fail)
      go_ret2
      exact ⟨A3, c3, rfl, ho4, hb13.trans hb4⟩
  · have hL : witL l k = [] := by unfold witL; rw [if_neg hz]
    have hz' : (witE l k == 0) = false := by rw [beq_eq_false_iff_ne]; exact hz
    rw [hL]
    clear hL
    generalize witE l k = z at *
    go_enter Try.func58, Try.ntmps58
    go_wp2_with (fail)
    refine HV.out.mono ?_
    rintro e w1 ⟨rfl, hb1⟩
    go_wp2_with (fail)
    go_ret2
    exact ⟨none, 0, rfl, World.ownsRow_nil _ _ _ _, hb1⟩
end Go.Proofs.Ytgbjglkiaoplmaa
