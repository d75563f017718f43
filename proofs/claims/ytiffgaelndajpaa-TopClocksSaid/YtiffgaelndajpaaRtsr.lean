/- Turn, Shift and Relax: the specification's; equal lists of jobs. -/
import Derived.Test.YtiffgaelndajpaaTsr
namespace Go.Proofs.Ytiffgaelndajpaa
open Go.RowKit

theorem step_append_run {P : Program} {ops : Array Oper} {o : Oper} {a : Act} {w : World} {K : Act → World → Prop} {Q : Exit → Act → World → Prop} {E : Prop}
    (hg : o.guard = none) (s x : Operand) (t : TypeId) (hop : o.op = Op.call { callee := Callee.builtin Builtin.append, args := #[s, x], argTypes := #[t, t] })
    (v1 v2 v' : Value) (W2 : World) (hs : a.eval s = v1) (hx : a.eval x = v2) (hrun : ∀ ty, (Builtin.append_ #[t, t] ty #[v1, v2]).run P w = .ok v' W2) (hK : K (a.put o.dst v') W2) :
    if Region.wanted o (yielded ops a.tmps) = true then Oper.wp P o a w K Q else E := by
  have hw : Region.wanted o (yielded ops a.tmps) = true := by simp [Region.wanted, hg]
  rw [if_pos hw]
  unfold Oper.wp execOp
  simp only [hop, resolve, invoke, builtin, Sem.run_bind, Sem.run_pure, Result.andThen_ok, List.map_toArray, List.map_cons, List.map_nil, hs, hx, hrun]
  exact hK


theorem map_take {g : T3 → T3} {l : List T3} {k : Nat} (h : k < l.length) : (l.take (k + 1)).map g = (l.take k).map g ++ [g (l.getD k t0)] := by
  rw [List.take_succ_eq_append_getElem h, List.map_append]; simp [h]
set_option maxRecDepth 100000 in
set_option maxHeartbeats 4000000 in
theorem rTurn_c (A : Option Addr) (l : List T3) (c : Nat) (w : World) (hlen : l.length ≤ 1000) (hr : Rd w A (cellsT l)) :
    Calls Try.prog 45 #[.slice A l.length c] w (OutT 40 (turL l) (validE l) w) := by
  have HV := Lib.hid (rvalidate_c A l c w hlen hr)
  by_cases hv : validE l = 0
  · have hl := validE_ok.1 hv
    have HB : turL l = l.map turnJ := by rw [turL, if_pos hv]
    rw [hv] at HV
    rw [HB, hv]
    clear HB hv
    go_enter Try.func45, Try.ntmps45
    go_wp2_with (fail)
    refine HV.out.mono ?_
    rintro e w1 ⟨rfl, hb1⟩
    go_wp2_with (fail)
    go_loopg [5, 6] l.length (fun gk v' iv wr => ∃ (k : Nat) (v : Value), v = v' ∧ Hid (k + gk = l.length) ∧ iv = .int .i64 (k : Int) ∧ wr.ownsRow w.heap.size 40 3 v ((l.take k).map turnJ).length (cellsT ((l.take k).map turnJ)) ∧ Below w.heap.size w wr)
    case atStart => exact ⟨0, _, rfl, by simp [Hid], rfl, World.ownsRow_nil _ _ _ _, hb1⟩
    case round =>
      obtain ⟨k, v, rfl, HK, rfl, hown, hb⟩ := hrel
      rcases gk with _ | gi
      · obtain rfl : k = l.length := HK.out
        obtain ⟨A', c', rfl⟩ := own_form hown
        rw [List.take_length] at hown
        go_wp2_with (fail)
        go_ret2
        exact ⟨A', c', by rw [List.take_length]; rfl, hown, hb⟩
      · have hkl : k < l.length := by have := HK.out; omega
        have hkl' : (k : Int) < (l.length : Int) := by omega
        have hj := hl.jobs.get hkl
        have j0 := hj.f0
        have j1 := hj.fb
        have j2 := hj.b1
        obtain ⟨b, o, rfl, _, c0, c1, c3⟩ := (hr.later hb.drew).tri hkl
        obtain ⟨A1, c1', rfl⟩ := own_form hown
        have HN := Lib.hid (map_take (g := turnJ) hkl)
        have hfl : ((l.take k).map turnJ).length ≤ 1000 := by simp; omega
        generalize l.getD k t0 = x at *
        generalize (l.take k).map turnJ = L at *
        obtain ⟨x0, x1, x2⟩ := x
        simp only [] at c0 c1 c3 j0 j1 j2
        have HX : Hid ((l.take (k + 1)).map turnJ = L ++ [(60 - x1, 60 - x0, x2)]) := HN.out
        have howd : wr.drew.ownsRow w.heap.size 40 3 (.slice A1 L.length c1') L.length (cellsT L) := own_call hown (Below.refl _ _).drew
        obtain ⟨A3, c4, W3, E3, ho3, hb3, _⟩ := append_three w.heap.size 22 40 job_info Try.underlying22 wr.drew _ L (60 - x1, 60 - x0, x2) howd (by omega) hb.drew.size
        have q1 : IntKind.i64.wrap (60 - x1) = 60 - x1 := by rw [IntWalk.i64_left]; exact IntWalk.wrap64_in _ ⟨by omega, by omega⟩
        have q0 : IntKind.i64.wrap (60 - x0) = 60 - x0 := by rw [IntWalk.i64_left]; exact IntWalk.wrap64_in _ ⟨by omega, by omega⟩
        have HE3 : Hid (∀ ty, (Builtin.append_ #[22, 22] ty #[.slice A1 L.length c1', .slice (some ⟨wr.heap.size, 0, none⟩) 1 1]).run Try.prog (wr.alloc (.cells #[.int .i64 (IntKind.i64.wrap (60 - x1)), .int .i64 (IntKind.i64.wrap (60 - x0)), .int .i64 x2] 40)).drew = .ok (.slice A3 (L.length + 1) c4) W3) := fun ty => by
          rw [q1, q0]; exact E3 ty
        have hb4 := hb.drew.trans hb3
        clear E3 hj HN hown howd q1 q0
        go_wp2_with (fail)
        go_region_law (refine step_append_run rfl (.tmp 18) (.tmp 37) 22 rfl (.slice A1 L.length c1') (.slice (some ⟨wr.heap.size, 0, none⟩) 1 1) (.slice A3 (L.length + 1) c4) W3 (by first | rfl | simp [Act.eval, Act.put]) (by first | rfl | simp [Act.eval, Act.put]) HE3.out ?_)
        all_goals
          go_wp2_with (fail)
          go_roundg gi
          case rel => exact ⟨k + 1, _, rfl, by have := HK.out; show _ = _; omega, by go_num, by rw [HX.out]; exact ho3, hb4⟩
          case measure => omega
  · have HB : turL l = [] := by rw [turL, if_neg hv]
    have hv' : (validE l != 0) = true := by simpa using hv
    rw [HB]
    clear HB
    generalize validE l = ev at *
    go_enter Try.func45, Try.ntmps45
    go_wp2_with (fail)
    refine HV.out.mono ?_
    rintro e w1 ⟨rfl, hb1⟩
    go_wp2_with (fail)
    go_ret2
    exact ⟨none, 0, rfl, World.ownsRow_nil _ _ _ _, hb1⟩

end Go.Proofs.Ytiffgaelndajpaa
