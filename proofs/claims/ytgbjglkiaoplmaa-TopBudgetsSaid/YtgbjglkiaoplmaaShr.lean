/- The shares: package budget's and the document's. -/
import Derived.Test.YtgbjglkiaoplmaaRos
import Derived.Test.YtgbjglkiaoplmaaRrt
namespace Go.Proofs.Ytgbjglkiaoplmaa
open Go.RowKit

/-- append as one step of a region that draws. -/
theorem step_append_run {P : Program} {ops : Array Oper} {o : Oper} {a : Act} {w : World} {K : Act → World → Prop} {Q : Exit → Act → World → Prop} {E : Prop}
    (hg : o.guard = none) (s x : Operand) (t : TypeId) (hop : o.op = Op.call { callee := Callee.builtin Builtin.append, args := #[s, x], argTypes := #[t, t] })
    (v1 v2 v' : Value) (W2 : World) (hs : a.eval s = v1) (hx : a.eval x = v2) (hrun : ∀ ty, (Builtin.append_ #[t, t] ty #[v1, v2]).run P w = .ok v' W2) (hK : K (a.put o.dst v') W2) :
    if Region.wanted o (yielded ops a.tmps) = true then Oper.wp P o a w K Q else E := by
  have hw : Region.wanted o (yielded ops a.tmps) = true := by simp [Region.wanted, hg]
  rw [if_pos hw]
  unfold Oper.wp execOp
  simp only [hop, resolve, invoke, builtin, Sem.run_bind, Sem.run_pure, Result.andThen_ok, List.map_toArray, List.map_cons, List.map_nil, hs, hx, hrun]
  exact hK
theorem fill_set {α : Type} {L : List α} {d e : α} {k : Nat} (hk : k < L.length) : (L.take k ++ List.replicate (L.length - k) d).set k (L.getD k e) = L.take (k + 1) ++ List.replicate (L.length - (k + 1)) d := by
  have hl : (L.take k).length = k := by simp; omega
  obtain ⟨m, hm⟩ : ∃ m, L.length - k = m + 1 := ⟨L.length - k - 1, by omega⟩
  have hm2 : L.length - (k + 1) = m := by omega
  have he : L.getD k e = L[k] := by simp [hk]
  rw [hm, hm2, List.replicate_succ, List.set_append, if_neg (by omega), hl, Nat.sub_self, List.set_cons_zero, he, List.take_succ_eq_append_getElem hk, List.append_assoc]
  rfl
def shrF (l : List It) : List (Int × Int) := l.map fun x => rat (shareP x)
def shrL (l : List It) : List (Int × Int) := if valE l = 0 then shrF l else []
theorem shrF_get {l : List It} {k : Nat} (hk : k < l.length) : (shrF l).getD k (0, 0) = rat (shareP (l.getD k it0)) := by
  simp [shrF, hk]
theorem shrF_len (l : List It) : (shrF l).length = l.length := List.length_map _
/-- A list of fractions in a row of its own, and an error. -/
def OutR (L : List (Int × Int)) (z : Int) (w : World) (e : Ending) (w' : World) : Prop :=
  ∃ A c, e = .returned (.tuple #[.slice A L.length c, .int .i64 z]) ∧ Rd w' A (cellsR L) ∧ Below w.heap.size w w'
set_option maxRecDepth 100000 in
set_option maxHeartbeats 4000000 in
theorem Shares_c (A : Option Addr) (l : List It) (cap : Nat) (w : World) (hlen : l.length ≤ 1000) (hr : Rd w A (cellsI l)) :
    Calls Try.prog 20 #[.slice A l.length cap] w (OutR (shrL l) (valE l) w) := by
  have HV := Lib.hid (Validate_c A l cap w hlen hr)
  by_cases hv : valE l = 0
  rotate_left
  · have hE : shrL l = [] := by unfold shrL; rw [if_neg hv]
    have hv' : (valE l == 0) = false := by rw [beq_eq_false_iff_ne]; exact hv
    rw [hE]
    clear hE
    generalize valE l = z at *
    go_enter Try.func20, Try.ntmps20
    go_wp2_with (fail)
    refine HV.out.mono ?_
    rintro e w1 ⟨rfl, hb1⟩
    go_wp2_with (fail)
    go_ret2
    exact ⟨none, 0, rfl, .inl rfl, hb1⟩
  · have hE : shrL l = shrF l := by unfold shrL; rw [if_pos hv]
    have HOK := Lib.hid (val_ok hv)
    rw [hE, hv]
    rw [hv] at HV
    clear hE hv
    have HG := Lib.hid (fun k (hk : k < l.length) => @shrF_get l k hk)
    have HSL := Lib.hid (shrF_len l)
    have HFS := Lib.hid (fun k (hk : k < (shrF l).length) => @fill_set _ (shrF l) (0, 0) (0, 0) k hk)
    have HF0 : Hid (List.replicate l.length ((0 : Int), (0 : Int)) = (shrF l).take 0 ++ List.replicate ((shrF l).length - 0) (0, 0)) := by show _ = _; rw [List.take_zero, List.nil_append, Nat.sub_zero, shrF_len]
    have HFE : Hid ((shrF l).take (shrF l).length ++ List.replicate ((shrF l).length - (shrF l).length) (0, 0) = shrF l) := by show _ = _; rw [List.take_length, Nat.sub_self, List.replicate_zero, List.append_nil]
    generalize shrF l = L at *
    go_enter Try.func20, Try.ntmps20
    go_wp2_with (fail)
    refine HV.out.mono ?_
    rintro e w1 ⟨rfl, hb1⟩
    obtain ⟨w2, hmk, hown2, hg2⟩ := made_rats l.length (by omega) w1
    have hb2 : Below w.heap.size w w2 := hb1.trans (((Below.refl w1.heap.size w1).grown hg2 (Nat.le_refl _) (fun k e => by cases e)).mono hb1.size)
    have hown3 := own_base hown2 hb1.size
    clear hown2 hg2 hb1 HV
    rw [HF0.out] at hown3
    go_wp2_with (fail)
    go_loopg [18] l.length (fun gk iv wr => ∃ k : Nat, Hid (k + gk = l.length) ∧ iv = .int .i64 (k : Int) ∧ wr.ownsRow w.heap.size 30 2 (.slice (some ⟨w1.heap.size, 0, none⟩) l.length l.length) l.length (cellsR (L.take k ++ List.replicate (L.length - k) (0, 0))) ∧ Below w.heap.size w wr)
    case atStart => exact ⟨0, by simp [Hid], rfl, hown3, hb2⟩
    case round =>
      obtain ⟨k, HK, rfl, hown, hb⟩ := hrel
      rcases gk with _ | gi
      · obtain rfl : k = l.length := HK.out
        rw [show l.length = L.length from HSL.out.symm, HFE.out] at hown
        have hrd := (own_rd hown).1
        go_wp2_with (fail)
        go_ret2
        exact ⟨some ⟨w1.heap.size, 0, none⟩, l.length, by rw [HSL.out]; rfl, hrd, hb⟩
      · have hkl : k < l.length := by have := HK.out; omega
        have hkl' : (k : Int) < (l.length : Int) := by omega
        obtain ⟨b, o, rfl, _, c0, c1, c2⟩ := (hr.later hb).itm hkl
        have hGk := HG.out k hkl
        have hFk := HFS.out k (by rw [HSL.out]; exact hkl)
        rw [hGk] at hFk
        have HFk := Lib.hid hFk
        have HMl : Hid ((L.take k ++ List.replicate (L.length - k) ((0 : Int), (0 : Int))).length = l.length) := by
          show _ = _; rw [List.length_append, List.length_take, List.length_replicate, HSL.out]; omega
        have HSh := fun w => Lib.hid (shareOf_c (l.getD k it0) 8 w (HOK.out k hkl) (by decide))
        clear hGk hFk
        generalize L.take k ++ List.replicate (L.length - k) ((0 : Int), (0 : Int)) = M at *
        generalize rat (shareP (l.getD k it0)) = p at *
        generalize (l.getD k it0).u = xu at *
        generalize (l.getD k it0).n = xn at *
        generalize (l.getD k it0).d = xd at *
        have hba := bl_alloc hb (.cells #[.int .i64 xu, .int .i64 xn, .int .i64 xd] 50)
        have hbx := bl_alloc (Below.refl wr.heap.size wr) (.cells #[.int .i64 xu, .int .i64 xn, .int .i64 xd] 50)
        obtain ⟨y0, y1, y2, _, _, _⟩ := (Bx.new wr 50 #[.int .i64 xu, .int .i64 xn, .int .i64 xd]).three
        have howna := own_call hown hbx
        clear hown hb
        go_wp2_with (fail)
        refine (HSh _).out.mono ?_
        rintro e w5 ⟨rfl, hb5⟩
        have hown5 := own_call howna hb5
        have hb05 := bl_call hba hb5
        obtain ⟨g, he, hbg, hgl, ⟨z0, z1⟩, ⟨z2, z3⟩, hput⟩ := own_putR hown5 HMl.out hkl p.1 p.2
        cases he
        have HP := Lib.hid hput
        have hbs := Lib.hid ((hb05.setCell (p := ⟨w1.heap.size, k * 2, none⟩) hbg (.int .i64 p.1)).setCell (p := ⟨w1.heap.size, k * 2 + 1, none⟩) hbg (.int .i64 p.2))
        clear hput howna hown5 hba hb5 c0 c1 c2 y0 y1 y2
        go_wp2_with (fail)
        go_roundg gi
        case rel => exact ⟨k + 1, by have := HK.out; show _ = _; omega, by go_num, by rw [← HFk.out]; exact HP.out, hbs.out⟩
        case measure => omega
set_option maxRecDepth 100000 in
set_option maxHeartbeats 4000000 in
theorem rShares_c (A : Option Addr) (l : List It) (cap : Nat) (w : World) (hlen : l.length ≤ 1000) (hr : Rd w A (cellsI l)) :
    Calls Try.prog 21 #[.slice A l.length cap] w (OutR (shrL l) (valE l) w) := by
  have HV := Lib.hid (rValidate_c A l cap w hlen hr)
  by_cases hv : valE l = 0
  rotate_left
  · have hE : shrL l = [] := by unfold shrL; rw [if_neg hv]
    have hv' : (valE l == 0) = false := by rw [beq_eq_false_iff_ne]; exact hv
    rw [hE]
    clear hE
    generalize valE l = z at *
    go_enter Try.func21, Try.ntmps21
    go_wp2_with (fail)
    refine HV.out.mono ?_
    rintro e w1 ⟨rfl, hb1⟩
    go_wp2_with (fail)
    go_ret2
    exact ⟨none, 0, rfl, .inl rfl, hb1⟩
  · have hE : shrL l = shrF l := by unfold shrL; rw [if_pos hv]
    have HOK := Lib.hid (val_ok hv)
    rw [hE, hv]
    rw [hv] at HV
    clear hE hv
    have HSL := Lib.hid (shrF_len l)
    have HG := Lib.hid (fun k (hk : k < l.length) => show (shrF l).take (k + 1) = (shrF l).take k ++ [rat (shareP (l.getD k it0))] by
      rw [← shrF_get hk, List.take_succ_eq_append_getElem (by rw [shrF_len]; exact hk)]; simp [hk, shrF_len])
    have HFE : Hid ((shrF l).take l.length = shrF l) := by show _ = _; rw [← shrF_len, List.take_length]
    have HTL := Lib.hid (fun k (hk : k ≤ l.length) => show ((shrF l).take k).length = k by rw [List.length_take, shrF_len]; omega)
    generalize shrF l = L at *
    go_enter Try.func21, Try.ntmps21
    go_wp2_with (fail)
    refine HV.out.mono ?_
    rintro e w1 ⟨rfl, hb1⟩
    clear HV
    go_wp2_with (fail)
    go_loopg [5, 6] l.length (fun gk jv iv wr => ∃ (k : Nat) (D : Option Addr) (d : Nat), Hid (k + gk = l.length) ∧ iv = .int .i64 (k : Int) ∧ jv = .slice D k d ∧ wr.ownsRow w.heap.size 30 2 (.slice D k d) k (cellsR (L.take k)) ∧ Below w.heap.size w wr)
    case atStart => exact ⟨0, none, 0, by simp [Hid], rfl, rfl, by rw [List.take_zero]; exact World.ownsRow_nil _ _ _ _, hb1⟩
    case round =>
      obtain ⟨k, D, d, HK, rfl, rfl, hown, hb⟩ := hrel
      rcases gk with _ | gi
      · obtain rfl : k = l.length := HK.out
        rw [HFE.out] at hown
        have hrd := (own_rd hown).1
        go_wp2_with (fail)
        go_ret2
        exact ⟨D, d, by rw [HSL.out]; rfl, hrd, hb⟩
      · have hkl : k < l.length := by have := HK.out; omega
        have hkl' : (k : Int) < (l.length : Int) := by omega
        obtain ⟨b, o, rfl, _, c0, c1, c2⟩ := (hr.later hb).itm hkl
        have HGk := Lib.hid (HG.out k hkl)
        have hx := HOK.out k hkl
        obtain ⟨d1, d2, n0, n1⟩ := hx.den
        have u0 := hx.u0
        have um := hx.um
        have hp := mul_in (a := (l.getD k it0).u) (b := (l.getD k it0).n) (A := 8) (B := 10) ⟨u0, um⟩ ⟨n0, by omega⟩
        have hpw : wrap64 ((l.getD k it0).u * (l.getD k it0).n) = (l.getD k it0).u * (l.getD k it0).n := IntWalk.wrap64_in _ ⟨by omega, by omega⟩
        have hsl := share_low (x := l.getD k it0) d1 d2
        have hR := fun W => rRatio_c ((l.getD k it0).u * (l.getD k it0).n) (l.getD k it0).d W ⟨hp.1, by omega⟩ ⟨by omega, by omega⟩
        rw [hsl] at hR
        obtain ⟨xp, hxp⟩ : ∃ xp, xp = (l.getD k it0).u * (l.getD k it0).n := ⟨_, rfl⟩
        rw [← hxp] at hR
        have hpw2 := Lib.hid ((IntWalk.i64_left _).trans (hpw.trans hxp.symm))
        have hpw3 := Lib.hid (hpw.trans hxp.symm)
        clear hpw
        have HR := Lib.hid (hR wr.drew)
        clear hxp
        have HTk := HTL.out k (by omega)
        have hdr : Below wr.heap.size wr wr.drew := (Below.refl _ _).drew
        have HAP : Hid (∀ w4, Below wr.heap.size wr w4 → ∃ A' c' w', (∀ ty, (Builtin.append_ #[25, 25] ty #[.slice D k d, .slice (some ⟨w4.heap.size, 0, none⟩) 1 1]).run Try.prog (w4.alloc (.cells #[.int .i64 (rat (shareP (l.getD k it0))).1, .int .i64 (rat (shareP (l.getD k it0))).2] 30)) = .ok (.slice A' (k + 1) c') w') ∧
            w'.ownsRow w.heap.size 30 2 (.slice A' (k + 1) c') (k + 1) (cellsR (L.take k ++ [rat (shareP (l.getD k it0))])) ∧ Below w.heap.size w w') := fun w4 h4 => by
          have hb4 := bl_call hb h4
          have ho4 := own_call hown h4
          obtain ⟨A', c', w', h1, h2, h3⟩ := append_rat w.heap.size w4 (.slice D k d) (L.take k) (rat (shareP (l.getD k it0))) (by rw [HTk]; exact ho4) (by omega) hb4.size
          rw [HTk] at h1 h2
          exact ⟨A', c', w', h1, h2, hb4.trans h3⟩
        clear hx d1 d2 n0 n1 u0 um hp hsl hR HTk
        generalize rat (shareP (l.getD k it0)) = p at *
        generalize (l.getD k it0).u = xu at *
        generalize (l.getD k it0).n = xn at *
        generalize (l.getD k it0).d = xd at *
        clear hown
        go_wp2_with (fail)
        go_region_law (first
          | (refine step_append_run rfl (.tmp 18) (.tmp 38) 25 rfl (.slice D k d) (.slice (some ⟨w4.heap.size, 0, none⟩) 1 1) (.slice A3 (k + 1) c3) W3 (by first | rfl | simp [Act.eval, Act.put]) (by first | rfl | simp [Act.eval, Act.put]) E1.out ?_)
          | (go_simp; (first | rw [hpw2.out] | rw [hpw3.out]); refine HR.out.mono ?_; rintro e w4 ⟨rfl, hb4⟩; obtain ⟨A3, c3, W3, hE1, hown3, hb3⟩ := HAP.out w4 (bl_call hdr hb4); have E1 := Lib.hid hE1; clear hE1; try go_simp))
        all_goals
          go_wp2_with (fail)
          go_roundg gi
          case rel => exact ⟨k + 1, A3, c3, by have := HK.out; show _ = _; omega, by go_num, rfl, by rw [HGk.out]; exact hown3, hb3⟩
          case measure => omega
end Go.Proofs.Ytgbjglkiaoplmaa
