/- slices.Delete of one number out of a row of the call's own. -/
import Derived.Test.YtmmjdabioolodaaRmp
import Derived.Laws.CopyRow
import Derived.Deep.RegionLaw
namespace Go.Proofs.Ytmmjdabioolodaa
open Go.RowKit

/-- append onto the beginning of a row where there is room, as one step of a region that draws. -/
theorem step_append_row {P : Program} {ops : Array Oper} {o : Oper} {a : Act} {w : World} {K : Act → World → Prop} {Q : Exit → Act → World → Prop} {E : Prop}
    (hg : o.guard = none) (s x : Operand) (t : TypeId) (hop : o.op = Op.call { callee := Callee.builtin Builtin.append, args := #[s, x], argTypes := #[t, t] })
    (e : TypeId) (i : TypeInfo) (h1 : P.underlying t = some (.slice e)) (h2 : P.info? e = some i) (hsz : i.size = 1)
    (g n cap : Nat) (cur : Array Value) (hs : a.eval s = .slice (some ⟨g, 0, none⟩) n cap) (hcur : w.heap[g]? = some (.cells cur e (0, 0)))
    (ad : Addr) (m c : Nat) (news : List Value) (hx : a.eval x = .slice (some ad) m c) (hn : news.length = m) (hc : ∀ j u, news[j]? = some u → w.cell? (ad.add j) = some u) (h1c : ∀ u ∈ news, u.oneCell' = true)
    (hroom : n + m ≤ cap) (hfit : n + news.length ≤ cur.size)
    (hK : K (a.put o.dst (.slice (some ⟨g, 0, none⟩) (n + m) cap)) (w.setRow g (cur.toList.take (n) ++ news ++ cur.toList.drop (n + news.length)).toArray)) :
    if Region.wanted o (yielded ops a.tmps) = true then Oper.wp P o a w K Q else E := by
  have hw : Region.wanted o (yielded ops a.tmps) = true := by simp [Region.wanted, hg]
  rw [if_pos hw]
  have hrun := run_append_room (P := P) w t o.type e i h1 h2 g n cap cur hcur ad m c news (by rw [hsz, Nat.mul_one]; exact hn) hc h1c hroom (by rw [hsz, Nat.mul_one]; exact hfit)
  rw [hsz] at hrun
  simp only [Nat.mul_one] at hrun
  unfold Oper.wp execOp
  simp only [hop, resolve, invoke, builtin, Sem.run_bind, Sem.run_pure, Result.andThen_ok, List.map_toArray, List.map_cons, List.map_nil, hs, hx, hrun]
  exact hK

/-- clear of one gate of a row. -/
theorem run_clear_num {P : Program} (w : World) (t e ty : TypeId) (ht : P.underlying t = some (.slice e)) (hv : ∀ w, (zeroValue e).run P w = .ok (.int .i64 0) w)
    (g o c : Nat) (cur : Array Value) (hg : w.heap[g]? = some (.cells cur e (0, 0))) (hfit : o + 1 ≤ cur.size) :
    (Builtin.clear_ #[t] ty #[.slice (some ⟨g, o, none⟩) 1 c]).run P w = .ok (.tuple #[]) (w.setRow g (cur.toList.take o ++ ints [0] ++ cur.toList.drop (o + 1)).toArray) := by
  have hzc : (Builtin.zeroCells (Value.int .i64 0).cells 1).toList = ints [0] := by kernel_rfl
  have hst := run_storeCells_at P g o e (ints [0]) 0 cur w hg (by simpa using hfit) (by decide)
  simp only [Nat.add_zero] at hst
  have hl : (ints [0]).length = 1 := rfl
  rw [hl] at hst
  simp [Builtin.clear_, run_underlying ht, hv, hzc, hst]

theorem num_zero : ∀ w, (zeroValue 3).run Try.prog w = .ok (.int .i64 0) w := by
  obtain ⟨i0, hi, hz0, hz1, hz2⟩ := info_parts int_info
  intro w
  simp [zeroValue, typeInfo, hi, hz0]

theorem ints_append (a b : List Int) : ints (a ++ b) = ints a ++ ints b := by simp [ints]
theorem ints_take' (l : List Int) (k : Nat) : (ints l).take k = ints (l.take k) := by simp [ints]
theorem ints_drop' (l : List Int) (k : Nat) : (ints l).drop k = ints (l.drop k) := by simp [ints]
theorem ints_erase (l : List Int) (i : Nat) : ints (l.eraseIdx i) = (ints l).take (i) ++ (ints l).drop ((i + 1)) := by
  rw [List.eraseIdx_eq_take_drop_succ, ints_append, ints_take', ints_drop']
set_option maxRecDepth 100000 in
set_option maxHeartbeats 1000000 in
theorem deleteI_c (base : Nat) (A : Option Addr) (l : List Int) (c i : Nat) (w : World) (hlen : l.length ≤ 1000) (hi : i < l.length) (hown : w.ownsRow base 3 1 (.slice A l.length c) l.length (ints l)) :
    Calls Try.prog 89 #[.slice A l.length c, .int .i64 i, .int .i64 ((i : Int) + 1)] w fun e w' => e = .returned (.slice A (l.eraseIdx i).length c) ∧ w'.ownsRow base 3 1 (.slice A (l.eraseIdx i).length c) (l.eraseIdx i).length (ints (l.eraseIdx i)) ∧ Below base w w' := by
  obtain ⟨i0, hinf, hz0, hz1, hz2⟩ := info_parts int_info
  rcases hown.2 with ⟨h0, hn0⟩ | ⟨g, cap, cur, hv, hbg, hheap, hle, hm, hsz, hpre⟩
  · omega
  rw [Nat.mul_one] at hsz hpre
  injection hv with hA _ hc
  subst hA hc
  have hel : (l.eraseIdx i).length = l.length - 1 := by rw [List.length_eraseIdx]; simp [hi]
  obtain ⟨news, hnews⟩ : ∃ news, news = ints (l.drop (i + 1)) := ⟨_, rfl⟩
  have hnl : news.length = (l.length - (i + 1)) := by rw [hnews]; simp
  obtain ⟨B, hB, hsrc⟩ : ∃ B : Addr, (if c = i + 1 then some (⟨g, 0, none⟩ : Addr) else some ⟨g, (i + 1), none⟩) = some B ∧ Hid (∀ t u, news[t]? = some u → w.drew.cell? (B.add t) = some u) := by
    by_cases h : c = i + 1
    · refine ⟨⟨g, 0, none⟩, by simp [h], fun t u hu => ?_⟩
      have h0 : news.length = 0 := by rw [hnl]; omega
      rw [List.length_eq_zero_iff.1 h0] at hu
      simp at hu
    · refine ⟨⟨g, (i + 1), none⟩, by simp [h], fun t u hu => ?_⟩
      have hu2 : (ints l)[(i + 1) + t]? = some u := by
        rw [hnews, ← ints_drop', List.getElem?_drop] at hu
        exact hu
      have := hown.cells (g := g) rfl _ u hu2
      have e1 : ∀ k, (⟨g, 0, none⟩ : Addr).add k = ⟨g, k, none⟩ := fun k => by unfold Addr.add; split <;> simp_all
      have e2 : (⟨g, (i + 1), none⟩ : Addr).add t = ⟨g, (i + 1) + t, none⟩ := by unfold Addr.add; split <;> simp_all
      rw [e2]
      rw [e1] at this
      exact this
  have hsz1 : cur.toList.length = c := by simpa using hsz
  -- the row behind the append
  obtain ⟨cur1, hcur1⟩ : ∃ cur1, cur1 = (cur.toList.take (i) ++ news ++ cur.toList.drop (i + news.length)).toArray := ⟨_, rfl⟩
  have hs1 : cur1.size = c := by rw [hcur1]; simp; omega
  have hp1 : cur1.toList.take ((l.length - 1)) = ints (l.eraseIdx i) := by
    have h1 : cur.toList.take (i) = (ints l).take (i) := by
      rw [← hpre, List.take_take]; congr 1; omega
    rw [hcur1, ints_erase, ints_drop', ← hnews, ← h1]
    have hl1 : (cur.toList.take (i) ++ news).length = (l.length - 1) := by simp; omega
    show List.take ((l.length - 1)) (cur.toList.take (i) ++ news ++ cur.toList.drop (i + news.length)) = _
    rw [← hl1, List.take_left']
    rfl
  obtain ⟨W1, hW1⟩ : ∃ W1, W1 = w.drew.setRow g cur1 := ⟨_, rfl⟩
  have hh1 : W1.heap[g]? = some (.cells cur1 3 (0, 0)) := by rw [hW1]; exact setRow_heap w.drew g cur cur1 _ _ hheap
  obtain ⟨cur2, hcur2⟩ : ∃ cur2, cur2 = (cur1.toList.take ((l.length - 1)) ++ ints [0] ++ cur1.toList.drop ((l.length - 1) + 1)).toArray := ⟨_, rfl⟩
  have hcl : ∀ ty, (Builtin.clear_ #[23] ty #[.slice (some ⟨g, (i + (l.length - (i + 1))), none⟩) (l.length - (i + (l.length - (i + 1)))) (c - (i + (l.length - (i + 1))))]).run Try.prog W1 = .ok (.tuple #[]) (W1.setRow g cur2) := fun ty => by
    rw [hcur2, show i + (l.length - (i + 1)) = l.length - 1 by omega, show l.length - (l.length - 1) = 1 by omega]
    exact run_clear_num W1 23 3 ty Try.underlying23 num_zero g _ _ cur1 hh1 (by omega)
  have HF : Hid ((W1.setRow g cur2).ownsRow base 3 1 (.slice (some ⟨g, 0, none⟩) (l.eraseIdx i).length c) (l.eraseIdx i).length (ints (l.eraseIdx i)) ∧ Below base w (W1.setRow g cur2)) := by
    refine ⟨⟨by simp, .inr ⟨g, c, cur2, rfl, hbg, setRow_heap W1 g cur1 cur2 _ _ hh1, by omega, hm, ?_, ?_⟩⟩, ?_⟩
    · rw [hcur2]; simp [ints]; omega
    · rw [hel, Nat.mul_one, ← hp1, hcur2]
      have hl1 : (cur1.toList.take ((l.length - 1))).length = (l.length - 1) := by simp; omega
      show List.take ((l.length - 1)) (cur1.toList.take ((l.length - 1)) ++ ints [0] ++ cur1.toList.drop ((l.length - 1) + 1)) = _
      rw [List.append_assoc, List.take_append_of_le_length (by omega), List.take_take, Nat.min_self]
    · have hg : w.grownBy (W1.setRow g cur2) (some g) := by
        refine ⟨by rw [hW1]; rfl, by rw [hW1]; rfl, by rw [hW1]; rfl, by rw [hW1, setRow_size, setRow_size]; exact Nat.le_refl _, fun k hk hne => ?_⟩
        have hne' : k ≠ g := fun e => hne (by rw [e])
        rw [setRow_other _ _ _ _ hne', hW1, setRow_other _ _ _ _ hne']
        rfl
      have hlt : g < w.heap.size := (Array.getElem?_eq_some_iff.1 hheap).1
      exact (Below.refl base w).grown hg (by omega) (fun k e => by cases e; exact hbg)
  have hic : i ≤ c := by omega
  have hjc : i + 1 ≤ c := by omega
  have hza : (0 : Int) ≤ (i : Int) + 1 := by omega
  have hzb : (i : Int) + 1 ≤ (l.length : Int) := by omega
  have hhd : Hid (w.drew.heap[g]? = some (.cells cur 3 (0, 0))) := hheap
  have hone : Hid (∀ u ∈ news, u.oneCell' = true) := by rw [hnews]; exact ints_one _
  have hnl' : Hid (news.length = (l.length - (i + 1))) := hnl
  have hfit : Hid (i + news.length ≤ cur.size) := by show _ ≤ _; omega
  have hc1 : Hid (cur1 = (cur.toList.take (i) ++ news ++ cur.toList.drop (i + news.length)).toArray) := hcur1
  have hw1 : Hid (W1 = w.drew.setRow g cur1) := hW1
  have hel' : Hid ((l.eraseIdx i).length = l.length - 1) := hel
  clear hnews hnl hcur1 hs1 hp1 hcur2 hh1 hW1 hsz1 hpre hsz hheap hown hel
  go_enter Try.func89, Try.ntmps89
  go_wp2_with (fail)
  go_region_law (refine step_append_row rfl (.tmp 22) (.tmp 25) 23 rfl 3 i0 Try.underlying23 hinf hz1 g i c cur (by simp [Act.eval, Act.put]) hhd.out B (l.length - (i + 1)) (c - (i + 1)) news (by simp [Act.eval, Act.put]) hnl'.out hsrc.out hone.out (by omega) hfit.out ?_; rw [← hc1.out, ← hw1.out])
  go_wp2_with (fail)
  go_ret
  exact ⟨by rw [hel'.out]; simp; omega, HF.out⟩
end Go.Proofs.Ytmmjdabioolodaa
