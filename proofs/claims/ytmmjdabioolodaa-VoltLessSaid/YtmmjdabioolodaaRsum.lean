/- Sums of voltages: the specification's contract. -/
import Derived.Test.YtmmjdabioolodaaSumC
namespace Go.Proofs.Ytmmjdabioolodaa
open Go.RowKit

theorem step_append_run {P : Program} {ops : Array Oper} {o : Oper} {a : Act} {w : World} {K : Act → World → Prop} {Q : Exit → Act → World → Prop} {E : Prop}
    (hg : o.guard = none) (s x : Operand) (t : TypeId) (hop : o.op = Op.call { callee := Callee.builtin Builtin.append, args := #[s, x], argTypes := #[t, t] })
    (v1 v2 v' : Value) (W2 : World) (hs : a.eval s = v1) (hx : a.eval x = v2) (hrun : ∀ ty, (Builtin.append_ #[t, t] ty #[v1, v2]).run P w = .ok v' W2) (hK : K (a.put o.dst v') W2) :
    if Region.wanted o (yielded ops a.tmps) = true then Oper.wp P o a w K Q else E := by
  have hw : Region.wanted o (yielded ops a.tmps) = true := by simp [Region.wanted, hg]
  rw [if_pos hw]
  unfold Oper.wp execOp
  simp only [hop, resolve, invoke, builtin, Sem.run_bind, Sem.run_pure, Result.andThen_ok, List.map_toArray, List.map_cons, List.map_nil, hs, hx, hrun]
  exact hK
def sumTo (a b : List Int) (k : Nat) : List Int := (List.range k).map fun i => a.getD i 0 + b.getD i 0
@[simp] theorem sumTo_len (a b : List Int) (k : Nat) : (sumTo a b k).length = k := by simp [sumTo]
theorem sumTo_succ (a b : List Int) (k : Nat) : sumTo a b (k + 1) = sumTo a b k ++ [a.getD k 0 + b.getD k 0] := by simp [sumTo, List.range_succ]
set_option maxRecDepth 100000 in
set_option maxHeartbeats 4000000 in
theorem rSum_c (A B C : Option Addr) (R : Rows) (g : List (List Int)) (a b : List Int) (cap cap' cap2 : Nat) (w : World) (hl : Brief g) (hl' : a.length ≤ 1000) (hl2 : b.length ≤ 1000) (hr : RT w A R g) (hs : Rd w B (ints a)) (ht : Rd w C (ints b)) :
    Calls Try.prog 53 #[.slice A g.length cap, .slice B a.length cap', .slice C b.length cap2] w (OutS (sumG g a b) (errB (sumB g a b)) w) := by
  have HV := Lib.hid (rValidate_c A R g cap w hl hr)
  have HI1 := fun (h : okG g = true) w1 (hb : Below w.heap.size w w1) => Lib.hid (isVolts_c A B R g a cap cap' w1 (okG_pos h) hl' (hr.later hb) (hs.later hb))
  have HI2 := fun (h : okG g = true) w1 (hb : Below w.heap.size w w1) => Lib.hid (isVolts_c A C R g b cap cap2 w1 (okG_pos h) hl2 (hr.later hb) (ht.later hb))
  have HFO : Hid (∀ (o : Option (List Int)) (A' : Option Addr) (c' : Nat) (w' : World), sumG g a b = o → Rd w' A' (ints (found o)) → Below w.heap.size w w' → OutS (sumG g a b) (errB (sumB g a b)) w (.returned (.tuple #[.slice A' (found o).length c', .bool o.isSome, .int .i64 (errB (sumB g a b))])) w') := fun o A' c' w' h1 h3 h4 => by rw [h1]; exact ⟨A', c', rfl, h3, h4⟩
  generalize OutS (sumG g a b) (errB (sumB g a b)) w = FO at HFO ⊢
  by_cases hok : sumB g a b = true
  · obtain ⟨hg, ha, hb⟩ := sumB_iff hok
    have hG : okG g = true := okG_iff.2 hg
    have hA : okL g a = true := (okN_iff (by decide)).2 ha
    have hB : okL g b = true := (okN_iff (by decide)).2 hb
    have HG : Hid (sumG g a b = if okL g (addL a b) = true then some (addL a b) else none) := by show _ = _; unfold sumG; rw [if_pos hok]
    have HSL := Lib.hid (sumTo_len a b)
    have HSS := Lib.hid (sumTo_succ a b)
    have HSA : Hid (sumTo a b a.length = addL a b) := rfl
    have HS0 : Hid (sumTo a b 0 = []) := rfl
    have hal := ha.len
    have hw3 := hg.wrs
    have HL : Hid (b.length = a.length) := by show _ = _; rw [hb.len, hal]
    have hn3 : a.length ≤ 3 := by omega
    have HI3 := fun (D : Option Addr) (d : Nat) w1 (h : Below w.heap.size w w1) (h' : Rd w1 D (ints (addL a b))) => Lib.hid (isVolts_c A D R g (addL a b) cap d w1 (okG_pos hG) (by simp; omega) (hr.later h) h')
    simp only [addL_len] at HI3
    have HAL : Hid ((addL a b).length = a.length) := addL_len a b
    replace HI1 := HI1 hG
    replace HI2 := HI2 hG
    rw [hG] at HV
    rw [hA] at HI1
    rw [hB] at HI2
    rw [hok] at HFO
    have hat := ha.at_
    have hbt := hb.at_
    clear ha hb hg hal hw3 hok hG hA hB
    generalize okL g (addL a b) = z at *
    go_enter Try.func53, Try.ntmps53
    go_wp2_with (fail)
    refine HV.out.mono ?_
    rintro e w1 ⟨rfl, hb1⟩
    rw [errB_t]
    go_wp2_with (fail)
    refine (HI1 _ hb1).out.mono ?_
    rintro e w2 ⟨rfl, hb2⟩
    replace hb1 := bl_call hb1 hb2
    go_wp2_with (fail)
    refine (HI2 _ hb1).out.mono ?_
    rintro e w3 ⟨rfl, hb3⟩
    replace hb1 := bl_call hb1 hb3
    clear HI1 HI2 HV hb2 hb3
    go_wp2_with (fail)
    go_loopg [10, 11] a.length (fun gk ov iv wr => ∃ (k : Nat) (D : Option Addr) (d : Nat), Hid (k + gk = a.length) ∧ iv = .int .i64 (k : Int) ∧ ov = .slice D k d ∧ wr.ownsRow w.heap.size 3 1 (.slice D k d) (sumTo a b k).length (ints (sumTo a b k)) ∧ Below w.heap.size w wr)
    case atStart => exact ⟨0, none, 0, by simp [Hid], rfl, rfl, by rw [HS0.out]; exact World.ownsRow_nil _ _ _ _, hb1⟩
    case round =>
      clear hb1
      obtain ⟨k, D, d, HK, rfl, rfl, hown, hb⟩ := hrel
      rcases gk with _ | gi
      · obtain rfl : k = a.length := HK.out
        rw [HSA.out] at hown
        have hrd := (own_rd (n := a.length) (by rw [HAL.out] at hown; exact hown)).1
        have HI := HI3 D d wr hb hrd
        cases z with
        | true =>
          go_wp2_with (fail)
          refine HI.out.mono ?_
          rintro e w4 ⟨rfl, hb4⟩
          have hrd4 := hrd.later hb4
          have hb04 := bl_call hb hb4
          go_wp2_with (fail)
          go_ret3
          have hfo := HFO.out (some (addL a b)) D d _ (by rw [HG.out]; simp) hrd4 hb04
          rw [show (found (some (addL a b))).length = a.length from HAL.out] at hfo
          exact hfo
        | false =>
          go_wp2_with (fail)
          refine HI.out.mono ?_
          rintro e w4 ⟨rfl, hb4⟩
          have hb04 := bl_call hb hb4
          go_wp2_with (fail)
          go_ret3
          exact HFO.out none none 0 _ (by rw [HG.out]; rfl) (.inl rfl) hb04
      · have hkN : k < a.length := by have := HK.out; omega
        have hkN' : (k : Int) < (a.length : Int) := by omega
        have hkB : k < b.length := by rw [HL.out]; exact hkN
        have hkB' : (k : Int) < (b.length : Int) := by omega
        obtain ⟨b1, o1, rfl, _, c1⟩ := (hs.later hb.drew).one hkN
        obtain ⟨b2, o2, rfl, _, c2⟩ := (ht.later hb.drew).one hkB
        have s1 := hat k
        have s2 := hbt k
        have HSk := Lib.hid (HSS.out k)
        have HLk := Lib.hid (HSL.out k)
        have hk3 : k ≤ 3 := by omega
        generalize a.getD k 0 = x at *
        generalize b.getD k 0 = y at *
        generalize sumTo a b k = L at *
        have howd : wr.drew.ownsRow w.heap.size 3 1 (.slice D k d) L.length (ints L) := own_call hown (Below.refl _ _).drew
        obtain ⟨A3, c3, W3, hrun, hown3, hb3, _⟩ := append_int w.heap.size wr.drew _ L (x + y) howd (by rw [HLk.out]; omega) hb.drew.size
        rw [HLk.out] at hrun hown3
        have q1 : IntKind.i64.wrap (x + y) = x + y := by rw [IntWalk.i64_left]; exact IntWalk.wrap64_in _ ⟨by omega, by omega⟩
        have E1 : Hid (∀ ty, (Builtin.append_ #[23, 23] ty #[.slice D k d, .slice (some ⟨wr.heap.size, 0, none⟩) 1 1]).run Try.prog (wr.alloc (.cells #[.int .i64 (IntKind.i64.wrap (x + y))] 3)).drew = .ok (.slice A3 (k + 1) c3) W3) := fun ty => by
          rw [q1]; exact hrun ty
        have hb4 := hb.drew.trans hb3
        clear hrun howd q1 hown s1 s2 hkB hkN hb3
        go_wp2_with (fail)
        go_region_law (refine step_append_run rfl (.tmp 33) (.tmp 43) 23 rfl (.slice D k d) (.slice (some ⟨wr.heap.size, 0, none⟩) 1 1) (.slice A3 (k + 1) c3) W3 (by first | rfl | simp [Act.eval, Act.put]) (by first | rfl | simp [Act.eval, Act.put]) E1.out ?_)
        all_goals
          go_wp2_with (fail)
          go_roundg gi
          case rel => exact ⟨k + 1, A3, c3, by have := HK.out; show _ = _; omega, by go_num, rfl, by rw [HSk.out]; exact hown3, hb4⟩
          case measure => omega
  · have hok' : sumB g a b = false := by simpa using hok
    have HG : Hid (sumG g a b = none) := by show _ = _; unfold sumG; rw [if_neg hok]
    rw [hok'] at HFO
    unfold sumB at hok'
    generalize okL g a = y at *
    generalize okL g b = z at *
    generalize okG g = x at *
    clear hok
    cases x with
    | false =>
      clear HI1 HI2
      go_enter Try.func53, Try.ntmps53
      go_wp2_with (fail)
      refine HV.out.mono ?_
      rintro e w1 ⟨rfl, hb1⟩
      rw [errB_f]
      go_wp2_with (fail)
      go_ret3
      exact HFO.out none none 0 _ HG.out (.inl rfl) hb1
    | true =>
      replace HI1 := HI1 rfl
      replace HI2 := HI2 rfl
      cases y with
      | false =>
        clear HI2
        go_enter Try.func53, Try.ntmps53
        go_wp2_with (fail)
        refine HV.out.mono ?_
        rintro e w1 ⟨rfl, hb1⟩
        rw [errB_t]
        go_wp2_with (fail)
        refine (HI1 _ hb1).out.mono ?_
        rintro e w2 ⟨rfl, hb2⟩
        replace hb1 := bl_call hb1 hb2
        go_wp2_with (fail)
        go_ret3
        exact HFO.out none none 0 _ HG.out (.inl rfl) hb1
      | true =>
        cases z with
        | true => cases hok'
        | false =>
          go_enter Try.func53, Try.ntmps53
          go_wp2_with (fail)
          refine HV.out.mono ?_
          rintro e w1 ⟨rfl, hb1⟩
          rw [errB_t]
          go_wp2_with (fail)
          refine (HI1 _ hb1).out.mono ?_
          rintro e w2 ⟨rfl, hb2⟩
          replace hb1 := bl_call hb1 hb2
          go_wp2_with (fail)
          refine (HI2 _ hb1).out.mono ?_
          rintro e w3 ⟨rfl, hb3⟩
          replace hb1 := bl_call hb1 hb3
          go_wp2_with (fail)
          go_ret3
          exact HFO.out none none 0 _ HG.out (.inl rfl) hb1
end Go.Proofs.Ytmmjdabioolodaa
