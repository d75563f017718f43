/- A row of readings with one more in it: the appends. -/
import Derived.Test.YtbbhaongakmhpaaRowR
import Derived.Test.YtbbhaongakmhpaaDrfI
namespace Go.Proofs.Ytbbhaongakmhpaa
open Go.RowKit

theorem step_append_run2 {P : Program} {ops : Array Oper} {o : Oper} {a : Act} {w : World} {K : Act → World → Prop} {Q : Exit → Act → World → Prop} {E : Prop}
    (hg : o.guard = none) (s x : Operand) (t : TypeId) (hop : o.op = Op.call { callee := Callee.builtin Builtin.append, args := #[s, x], argTypes := #[t, t] })
    (v1 v2 v' : Value) (W2 : World) (hs : a.eval s = v1) (hx : a.eval x = v2) (hrun : ∀ ty, (Builtin.append_ #[t, t] ty #[v1, v2]).run P w = .ok v' W2) (hK : K (a.put o.dst v') W2) :
    if Region.wanted o (yielded ops a.tmps) = true then Oper.wp P o a w K Q else E := by
  have hw : Region.wanted o (yielded ops a.tmps) = true := by simp [Region.wanted, hg]
  rw [if_pos hw]
  unfold Oper.wp execOp
  simp only [hop, resolve, invoke, builtin, Sem.run_bind, Sem.run_pure, Result.andThen_ok, List.map_toArray, List.map_cons, List.map_nil, hs, hx, hrun]
  exact hK
theorem ins_run (wr : World) (base : Nat) (b o c a : Nat) (l : List T3) (x : T3) (hbase : base ≤ wr.heap.size) (ha : a ≤ l.length) (hc : l.length ≤ c) (hlen : l.length ≤ 1000) (hr : Rd wr (some ⟨b, o, none⟩) (cellsT l)) :
    ∃ A1 c1 W1, (∀ ty, (Builtin.append_ #[22, 22] ty #[.slice (some ⟨wr.heap.size, 0, none⟩) 0 0, .slice (some ⟨b, o, none⟩) a c]).run Try.prog (wr.drew.alloc (.cells #[] 55)) = .ok (.slice A1 a c1) W1) ∧
    ∃ A2 c2 W2, (∀ ty, (Builtin.append_ #[22, 22] ty #[.slice A1 a c1, .slice (some ⟨W1.heap.size, 0, none⟩) 1 1]).run Try.prog (W1.alloc (.cells #[.int .i64 x.1, .int .i64 x.2.1, .int .i64 x.2.2] 55)) = .ok (.slice A2 (a + 1) c2) W2) ∧
    ∃ o2, (if c = a then some (⟨b, o, none⟩ : Addr) else some ⟨b, o + a * 3, none⟩) = some ⟨b, o2, none⟩ ∧
    ∃ A3 c3 W3, (∀ ty, (Builtin.append_ #[22, 22] ty #[.slice A2 (a + 1) c2, .slice (some ⟨b, o2, none⟩) (l.length - a) (c - a)]).run Try.prog W2 = .ok (.slice A3 (l.length + 1) c3) W3) ∧
      W3.ownsRow base 55 3 (.slice A3 (l.length + 1) c3) (l.length + 1) (cellsT (insK l a x)) ∧ Below wr.heap.size wr W3 := by
  have hrt : Rd wr (some ⟨b, o, none⟩) (cellsT (l.take a)) := hr.taken a
  have htl : (l.take a).length = a := by simp; omega
  have hdl : (l.drop a).length = l.length - a := by simp
  have hXb : Below wr.heap.size wr (wr.drew.alloc (.cells #[] 55)) := bl_alloc (Below.refl wr.heap.size wr).drew _
  have hBb : Bx (wr.drew.alloc (.cells #[] 55)) wr.heap.size 55 #[] := Bx.new wr.drew _ _
  obtain ⟨A1, c1, W1, E1, o1, g1⟩ := grow_rows (wr.drew.alloc (.cells #[] 55)) wr.heap.size _ [] (l.take a) (some ⟨b, o, none⟩) c (own_empty (Nat.le_refl _) hBb) (hrt.later hXb) (by simp; omega) hXb.size
  have hW1 : Below wr.heap.size wr W1 := hXb.trans (grown_below (own_empty (Nat.le_refl _) hBb) g1 hXb.size)
  rw [List.nil_append] at o1
  have hXc : Below wr.heap.size wr (W1.alloc (.cells #[.int .i64 x.1, .int .i64 x.2.1, .int .i64 x.2.2] 55)) := bl_alloc hW1 _
  have o1a := o1.alloc (.cells #[.int .i64 x.1, .int .i64 x.2.1, .int .i64 x.2.2] 55)
  have hx : Rd (W1.alloc (.cells #[.int .i64 x.1, .int .i64 x.2.1, .int .i64 x.2.2] 55)) (some ⟨W1.heap.size, 0, none⟩) (cellsT [x]) := rd_newT W1 55 [x]
  obtain ⟨A2, c2, W2, E2, o2', g2⟩ := grow_rows _ wr.heap.size _ (l.take a) [x] (some ⟨W1.heap.size, 0, none⟩) 1 o1a hx (by simp; omega) hXc.size
  have hW2 : Below wr.heap.size wr W2 := hXc.trans (grown_below o1a g2 hXc.size)
  obtain ⟨o2, ho2e, hrd2⟩ : ∃ o2, (if c = a then some (⟨b, o, none⟩ : Addr) else some ⟨b, o + a * 3, none⟩) = some ⟨b, o2, none⟩ ∧ Rd W2 (some ⟨b, o2, none⟩) (cellsT (l.drop a)) := by
    by_cases h : c = a
    · exact ⟨o, by rw [if_pos h], .inl (by rw [List.drop_of_length_le (by omega)]; rfl)⟩
    · exact ⟨_, by rw [if_neg h], (hr.later hW2).dropped a⟩
  obtain ⟨A3, c3, W3, E3, o3', g3⟩ := grow_rows W2 wr.heap.size _ (l.take a ++ [x]) (l.drop a) (some ⟨b, o2, none⟩) (c - a) o2' hrd2 (by simp; omega) hW2.size
  have hW3 : Below wr.heap.size wr W3 := hW2.trans (grown_below o2' g3 hW2.size)
  have e1 : (l.take a ++ [x]).length = a + 1 := by simp; omega
  have e2 : a + 1 + (l.length - a) = l.length + 1 := by omega
  have e3 : (l.take a ++ [x]) ++ l.drop a = insK l a x := by simp [insK]
  have e4 := insK_length (e := x) ha
  simp only [List.length_nil, Nat.zero_add, htl, hdl, List.length_singleton, e1, e2] at E1 E2 E3
  rw [e3, e4] at o3'
  exact ⟨A1, c1, W1, E1, A2, c2, W2, E2, o2, ho2e, A3, c3, W3, E3, own_base o3' hbase, hW3⟩
/-- .. the row and the new one made before the first append. -/
theorem ins_runG (wr W : World) (base : Nat) (g1 g2 b o c a : Nat) (l : List T3) (x : T3) (hbase : base ≤ wr.heap.size) (ha : a ≤ l.length) (hc : l.length ≤ c) (hlen : l.length ≤ 1000) (hr : Rd wr (some ⟨b, o, none⟩) (cellsT l)) (hXb : Below wr.heap.size wr W) (hBb : Bx W g1 55 #[]) (hg1 : wr.heap.size ≤ g1) (hxb : Bx W g2 55 #[.int .i64 x.1, .int .i64 x.2.1, .int .i64 x.2.2]) (hne : g2 ≠ g1) :
    ∃ A1 c1 W1, (∀ ty, (Builtin.append_ #[22, 22] ty #[.slice (some ⟨g1, 0, none⟩) 0 0, .slice (some ⟨b, o, none⟩) a c]).run Try.prog W = .ok (.slice A1 a c1) W1) ∧
    ∃ A2 c2 W2, (∀ ty, (Builtin.append_ #[22, 22] ty #[.slice A1 a c1, .slice (some ⟨g2, 0, none⟩) 1 1]).run Try.prog W1 = .ok (.slice A2 (a + 1) c2) W2) ∧
    ∃ o2, (if c = a then some (⟨b, o, none⟩ : Addr) else some ⟨b, o + a * 3, none⟩) = some ⟨b, o2, none⟩ ∧
    ∃ A3 c3 W3, (∀ ty, (Builtin.append_ #[22, 22] ty #[.slice A2 (a + 1) c2, .slice (some ⟨b, o2, none⟩) (l.length - a) (c - a)]).run Try.prog W2 = .ok (.slice A3 (l.length + 1) c3) W3) ∧
      W3.ownsRow base 55 3 (.slice A3 (l.length + 1) c3) (l.length + 1) (cellsT (insK l a x)) ∧ Below wr.heap.size wr W3 := by
  have hrt : Rd wr (some ⟨b, o, none⟩) (cellsT (l.take a)) := hr.taken a
  have htl : (l.take a).length = a := by simp; omega
  have hdl : (l.drop a).length = l.length - a := by simp
  have ho0 : W.ownsRow wr.heap.size 55 3 (.slice (some ⟨g1, 0, none⟩) 0 0) ([] : List T3).length (cellsT []) := own_empty hg1 hBb
  obtain ⟨A1, c1, W1, E1, o1, g1'⟩ := grow_rows W wr.heap.size _ [] (l.take a) (some ⟨b, o, none⟩) c ho0 (hrt.later hXb) (by simp; omega) hXb.size
  have hW1 : Below wr.heap.size wr W1 := hXb.trans (grown_below ho0 g1' hXb.size)
  have hx1 : Bx W1 g2 55 #[.int .i64 x.1, .int .i64 x.2.1, .int .i64 x.2.2] := (g1'.block g2 hxb.lt (by intro e; injection e with e; exact hne e)).trans hxb
  rw [List.nil_append] at o1
  have hx : Rd W1 (some ⟨g2, 0, none⟩) (cellsT [x]) := Bx.rd (cs := cellsT [x]) hx1
  obtain ⟨A2, c2, W2, E2, o2', g2'⟩ := grow_rows _ wr.heap.size _ (l.take a) [x] (some ⟨g2, 0, none⟩) 1 o1 hx (by simp; omega) hW1.size
  have hW2 : Below wr.heap.size wr W2 := hW1.trans (grown_below o1 g2' hW1.size)
  obtain ⟨o2, ho2e, hrd2⟩ : ∃ o2, (if c = a then some (⟨b, o, none⟩ : Addr) else some ⟨b, o + a * 3, none⟩) = some ⟨b, o2, none⟩ ∧ Rd W2 (some ⟨b, o2, none⟩) (cellsT (l.drop a)) := by
    by_cases h : c = a
    · exact ⟨o, by rw [if_pos h], .inl (by rw [List.drop_of_length_le (by omega)]; rfl)⟩
    · exact ⟨_, by rw [if_neg h], (hr.later hW2).dropped a⟩
  obtain ⟨A3, c3, W3, E3, o3', g3⟩ := grow_rows W2 wr.heap.size _ (l.take a ++ [x]) (l.drop a) (some ⟨b, o2, none⟩) (c - a) o2' hrd2 (by simp; omega) hW2.size
  have hW3 : Below wr.heap.size wr W3 := hW2.trans (grown_below o2' g3 hW2.size)
  have e1 : (l.take a ++ [x]).length = a + 1 := by simp; omega
  have e2 : a + 1 + (l.length - a) = l.length + 1 := by omega
  have e3 : (l.take a ++ [x]) ++ l.drop a = insK l a x := by simp [insK]
  have e4 := insK_length (e := x) ha
  simp only [List.length_nil, Nat.zero_add, htl, hdl, List.length_singleton, e1, e2] at E1 E2 E3
  rw [e3, e4] at o3'
  exact ⟨A1, c1, W1, E1, A2, c2, W2, E2, o2, ho2e, A3, c3, W3, E3, own_base o3' hbase, hW3⟩
end Go.Proofs.Ytbbhaongakmhpaa
