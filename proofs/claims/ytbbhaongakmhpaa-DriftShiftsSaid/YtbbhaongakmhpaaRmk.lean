/- Readings turned round, at other times, of the opposite value: the specification's. -/
import Derived.Test.YtbbhaongakmhpaaShf
import Derived.Test.YtbbhaongakmhpaaRwit
namespace Go.Proofs.Ytbbhaongakmhpaa
open Go.RowKit

theorem take_next {R : List T3} {k : Nat} (h : k < R.length) : R.take (k + 1) = R.take k ++ [R.getD k t0] := by
  rw [List.take_succ_eq_append_getElem h]; simp [h]
set_option maxRecDepth 100000 in
set_option maxHeartbeats 2000000 in
theorem rTurn_c (A : Option Addr) (l : List T3) (c : Nat) (w : World) (hlen : l.length ≤ 1000) (hr : Rd w A (cellsT l)) :
    Calls Try.prog 47 #[.slice A l.length c] w (OutR (trnL l) (validE l) w) := by
  have HV := Lib.hid (rvalidate_c A l c w hlen hr)
  by_cases hv : validE l = 0
  · have ho := validE_ok.1 hv
    have HG : trnL l = turnL l := by rw [trnL, if_pos hv]
    have HP : Hid (∀ k, k < l.length → 0 ≤ tm l k ∧ tm l k ≤ 1000 ∧ True) := fun k hk => ⟨ho.t0 k hk, ho.t1 k hk, trivial⟩
    have HEL := Lib.hid (fun k hk => @turn_get l k hk)
    have hRl := turnL_length l
    rw [HG, hv]
    rw [hv] at HV
    generalize turnL l = R at *
    have HTN := Lib.hid (fun k (h : k < l.length) => @take_next R k (by omega))
    have HTA : Hid (R.take l.length = R) := by show _ = _; rw [← hRl, List.take_length]
    clear HG hv ho
    go_enter Try.func47, Try.ntmps47
    have hwn : wrap64 ((l.length : Int) - 1) = (l.length : Int) - 1 := IntWalk.wrap64_in _ ⟨by omega, by omega⟩
    go_wp2_with (fail)
    refine HV.out.mono ?_
    rintro e w1 ⟨rfl, hb1⟩
    go_wp2_with (fail)
    go_loopg [5, 6] l.length (fun gk v' iv wr => ∃ (k : Nat) (v : Value), v = v' ∧ Hid (k + gk = l.length) ∧ iv = .int .i64 ((l.length : Int) - 1 - (k : Int)) ∧ wr.ownsRow w.heap.size 55 3 v (R.take k).length (cellsT (R.take k)) ∧ Below w.heap.size w wr)
    case atStart => exact ⟨0, _, rfl, by simp [Hid], by simp, World.ownsRow_nil _ _ _ _, hb1⟩
    case round =>
      obtain ⟨k, v, rfl, HK, rfl, hown, hb⟩ := hrel
      rcases gk with _ | gi
      · obtain rfl : k = l.length := HK.out
        have hk1 : (l.length : Int) - 1 - (l.length : Int) = -1 := by omega
        rw [hk1]
        obtain ⟨A', c', rfl⟩ := own_form hown
        rw [HTA.out] at hown
        go_wp2_with (fail)
        go_ret2
        exact ⟨A', c', by rw [HTA.out]; rfl, hown, hb⟩
      · have hkl : k < l.length := by have := HK.out; omega
        have hkl' : (k : Int) < (l.length : Int) := by omega
        have hEL := HEL.out k hkl
        obtain ⟨j, hj⟩ : ∃ j : Nat, j = l.length - 1 - k := ⟨_, rfl⟩
        have hjz : (l.length : Int) - 1 - (k : Int) = (j : Int) := by omega
        have hjl : j < l.length := by omega
        have hjl' : (j : Int) < (l.length : Int) := by omega
        rw [hjz]
        rw [← hj] at hEL
        have HJ := Lib.hid hj
        clear hj hjz
        obtain ⟨b, o, rfl, _, c0_, c1_, c3_⟩ := (hr.later hb.drew).tri hjl
        have c0 : wr.drew.cell? ⟨b, o + j * 3, none⟩ = some (.int .i64 (tm l j)) := c0_
        have c1 : wr.drew.cell? ⟨b, o + j * 3 + 1, none⟩ = some (.int .i64 (lw l j)) := c1_
        have c3 : wr.drew.cell? ⟨b, o + j * 3 + 2, none⟩ = some (.int .i64 (hg l j)) := c3_
        obtain ⟨p0, p1, p2⟩ := HP.out j hjl
        clear c0_ c1_ c3_
        obtain ⟨A1, c1', rfl⟩ := own_form hown
        have HN := HTN.out k hkl
        rw [hEL] at HN
        have hfl : (R.take k).length ≤ 1000 := by rw [List.length_take]; omega
        generalize tm l j = x0 at *
        generalize lw l j = x1 at *
        generalize hg l j = x2 at *
        generalize R.take k = L at *
        have HX := Lib.hid HN
        have howd : wr.drew.ownsRow w.heap.size 55 3 (.slice A1 L.length c1') L.length (cellsT L) := own_call hown (Below.refl _ _).drew
        obtain ⟨A3, c4, W3, E3, ho3, hb3, _⟩ := append_three w.heap.size 22 55 rdg_info Try.underlying22 wr.drew _ L (1000 - x0, x1, x2) howd (by omega) hb.drew.size
        have q0 : IntKind.i64.wrap (1000 - x0) = 1000 - x0 := by rw [IntWalk.i64_left]; exact IntWalk.wrap64_in _ ⟨by omega, by omega⟩
        have HE3 : Hid (∀ ty, (Builtin.append_ #[22, 22] ty #[.slice A1 L.length c1', .slice (some ⟨wr.heap.size, 0, none⟩) 1 1]).run Try.prog (wr.alloc (.cells #[.int .i64 (IntKind.i64.wrap (1000 - x0)), .int .i64 (x1), .int .i64 (x2)] 55)).drew = .ok (.slice A3 (L.length + 1) c4) W3) := fun ty => by
          rw [q0]; exact E3 ty
        have hb4 := hb.drew.trans hb3
        clear E3 hEL HN hown howd q0
        go_wp2_with (fail)
        go_region_law (refine step_append_run rfl (.tmp 19) (.tmp 37) 22 rfl (.slice A1 L.length c1') (.slice (some ⟨wr.heap.size, 0, none⟩) 1 1) (.slice A3 (L.length + 1) c4) W3 (by first | rfl | simp [Act.eval, Act.put]) (by first | rfl | simp [Act.eval, Act.put]) HE3.out ?_)
        all_goals
          go_wp2_with (fail)
          go_roundg gi
          case rel => exact ⟨k + 1, _, rfl, by have := HK.out; show _ = _; omega, by rw [show (l.length : Int) - 1 - ((k + 1 : Nat) : Int) = (j : Int) - 1 by have := HJ.out; omega], by rw [HX.out]; exact ho3, hb4⟩
          case measure => omega
  · have hv' : (validE l != 0) = true := by simpa using hv
    rw [show trnL l = [] by rw [trnL, if_neg hv]]
    generalize validE l = ev at *
    go_enter Try.func47, Try.ntmps47
    go_wp2_with (fail)
    refine HV.out.mono ?_
    rintro e w1 ⟨rfl, hb1⟩
    go_wp2_with (fail)
    go_ret2
    exact ⟨none, 0, rfl, World.ownsRow_nil _ _ _ _, hb1⟩
set_option maxRecDepth 100000 in
set_option maxHeartbeats 2000000 in
theorem rOpposite_c (A : Option Addr) (l : List T3) (c : Nat) (w : World) (hlen : l.length ≤ 1000) (hr : Rd w A (cellsT l)) :
    Calls Try.prog 51 #[.slice A l.length c] w (OutR (oppG l) (validE l) w) := by
  have HV := Lib.hid (rvalidate_c A l c w hlen hr)
  by_cases hv : validE l = 0
  · have ho := validE_ok.1 hv
    have HG : oppG l = oppL l := by rw [oppG, if_pos hv]
    have HP : Hid (∀ k, k < l.length → -1000 ≤ lw l k ∧ lw l k ≤ hg l k ∧ hg l k ≤ 1000) := fun k hk => ⟨ho.lo k hk, ho.lh k hk, ho.hi k hk⟩
    have HEL := Lib.hid (fun k hk => @opp_get l k hk)
    have hRl := oppL_length l
    rw [HG, hv]
    rw [hv] at HV
    generalize oppL l = R at *
    have HTN := Lib.hid (fun k (h : k < l.length) => @take_next R k (by omega))
    have HTA : Hid (R.take l.length = R) := by show _ = _; rw [← hRl, List.take_length]
    clear HG hv ho
    go_enter Try.func51, Try.ntmps51
    go_wp2_with (fail)
    refine HV.out.mono ?_
    rintro e w1 ⟨rfl, hb1⟩
    go_wp2_with (fail)
    go_loopg [5, 6] l.length (fun gk v' iv wr => ∃ (k : Nat) (v : Value), v = v' ∧ Hid (k + gk = l.length) ∧ iv = .int .i64 (k : Int) ∧ wr.ownsRow w.heap.size 55 3 v (R.take k).length (cellsT (R.take k)) ∧ Below w.heap.size w wr)
    case atStart => exact ⟨0, _, rfl, by simp [Hid], rfl, World.ownsRow_nil _ _ _ _, hb1⟩
    case round =>
      obtain ⟨k, v, rfl, HK, rfl, hown, hb⟩ := hrel
      rcases gk with _ | gi
      · obtain rfl : k = l.length := HK.out
        obtain ⟨A', c', rfl⟩ := own_form hown
        rw [HTA.out] at hown
        go_wp2_with (fail)
        go_ret2
        exact ⟨A', c', by rw [HTA.out]; rfl, hown, hb⟩
      · have hkl : k < l.length := by have := HK.out; omega
        have hkl' : (k : Int) < (l.length : Int) := by omega
        have hEL := HEL.out k hkl
        obtain ⟨b, o, rfl, _, c0_, c1_, c3_⟩ := (hr.later hb.drew).tri hkl
        have c0 : wr.drew.cell? ⟨b, o + k * 3, none⟩ = some (.int .i64 (tm l k)) := c0_
        have c1 : wr.drew.cell? ⟨b, o + k * 3 + 1, none⟩ = some (.int .i64 (lw l k)) := c1_
        have c3 : wr.drew.cell? ⟨b, o + k * 3 + 2, none⟩ = some (.int .i64 (hg l k)) := c3_
        obtain ⟨p0, p1, p2⟩ := HP.out k hkl
        clear c0_ c1_ c3_
        obtain ⟨A1, c1', rfl⟩ := own_form hown
        have HN := HTN.out k hkl
        rw [hEL] at HN
        have hfl : (R.take k).length ≤ 1000 := by rw [List.length_take]; omega
        generalize tm l k = x0 at *
        generalize lw l k = x1 at *
        generalize hg l k = x2 at *
        generalize R.take k = L at *
        have HX := Lib.hid HN
        have howd : wr.drew.ownsRow w.heap.size 55 3 (.slice A1 L.length c1') L.length (cellsT L) := own_call hown (Below.refl _ _).drew
        obtain ⟨A3, c4, W3, E3, ho3, hb3, _⟩ := append_three w.heap.size 22 55 rdg_info Try.underlying22 wr.drew _ L (x0, -x2, -x1) howd (by omega) hb.drew.size
        have q0 : IntKind.i64.wrap (-x2) = -x2 := by rw [IntWalk.i64_left]; exact IntWalk.wrap64_in _ ⟨by omega, by omega⟩
        have q1 : IntKind.i64.wrap (-x1) = -x1 := by rw [IntWalk.i64_left]; exact IntWalk.wrap64_in _ ⟨by omega, by omega⟩
        have HE3 : Hid (∀ ty, (Builtin.append_ #[22, 22] ty #[.slice A1 L.length c1', .slice (some ⟨wr.heap.size, 0, none⟩) 1 1]).run Try.prog (wr.alloc (.cells #[.int .i64 (x0), .int .i64 (IntKind.i64.wrap (-x2)), .int .i64 (IntKind.i64.wrap (-x1))] 55)).drew = .ok (.slice A3 (L.length + 1) c4) W3) := fun ty => by
          rw [q0, q1]; exact E3 ty
        have hb4 := hb.drew.trans hb3
        clear E3 hEL HN hown howd q0 q1
        go_wp2_with (fail)
        go_region_law (refine step_append_run rfl (.tmp 18) (.tmp 37) 22 rfl (.slice A1 L.length c1') (.slice (some ⟨wr.heap.size, 0, none⟩) 1 1) (.slice A3 (L.length + 1) c4) W3 (by first | rfl | simp [Act.eval, Act.put]) (by first | rfl | simp [Act.eval, Act.put]) HE3.out ?_)
        all_goals
          go_wp2_with (fail)
          go_roundg gi
          case rel => exact ⟨k + 1, _, rfl, by have := HK.out; show _ = _; omega, by go_num, by rw [HX.out]; exact ho3, hb4⟩
          case measure => omega
  · have hv' : (validE l != 0) = true := by simpa using hv
    rw [show oppG l = [] by rw [oppG, if_neg hv]]
    generalize validE l = ev at *
    go_enter Try.func51, Try.ntmps51
    go_wp2_with (fail)
    refine HV.out.mono ?_
    rintro e w1 ⟨rfl, hb1⟩
    go_wp2_with (fail)
    go_ret2
    exact ⟨none, 0, rfl, World.ownsRow_nil _ _ _ _, hb1⟩
set_option maxRecDepth 100000 in
set_option maxHeartbeats 2000000 in
theorem rShift_c (A : Option Addr) (l : List T3) (c : Nat) (b : Int) (w : World) (hlen : l.length ≤ 1000) (hr : Rd w A (cellsT l)) :
    Calls Try.prog 49 #[.slice A l.length c, .int .i64 b] w (OutR (shfL l b) (shfE l b) w) := by
  have HV := Lib.hid (rvalidate_c A l c w hlen hr)
  by_cases hv : validE l = 0
  · have ho := validE_ok.1 hv
    have hn := ho.ne
    have hn' : (0 : Int) < (l.length : Int) := by omega
    obtain ⟨m, hm⟩ : ∃ m : Nat, m = l.length - 1 := ⟨_, rfl⟩
    have hml : m < l.length := by omega
    have hml' : (m : Int) < (l.length : Int) := by omega
    have hwn : wrap64 ((l.length : Int) - 1) = (m : Int) := by rw [IntWalk.wrap64_in _ ⟨by omega, by omega⟩]; omega
    have hwm : IntKind.i64.wrap ((l.length : Int) - 1) = (m : Int) := by rw [IntWalk.i64_left]; exact hwn
    have a0 := ho.t0 0 hn
    have a1 := ho.t1 0 hn
    have b0 := ho.t0 m hml
    have b1 := ho.t1 m hml
    have w1a : IntKind.i64.wrap (-(tm l 0)) = -(tm l 0) := IntWalk.i64_in _ ⟨by omega, by omega⟩
    have w1b : IntKind.i64.wrap (1000 - tm l m) = 1000 - tm l m := IntWalk.i64_in _ ⟨by omega, by omega⟩
    have w1c : wrap64 (-(tm l 0)) = -(tm l 0) := IntWalk.wrap64_in _ ⟨by omega, by omega⟩
    have w1d : wrap64 (1000 - tm l m) = 1000 - tm l m := IntWalk.wrap64_in _ ⟨by omega, by omega⟩
    rw [hv] at HV
    by_cases hin : inB b (-(tm l 0)) (1000 - tm l m) = true
    · have HE : shfE l b = 0 := by rw [shfE, if_pos hv, ← hm, if_pos hin]
      have HG : shfL l b = shiftL l b := by rw [shfL, if_pos HE]
      have HP : Hid (∀ k, k < l.length → (0 ≤ tm l k ∧ tm l k ≤ 1000) ∧ -1000 ≤ b ∧ b ≤ 1000) := fun k hk => ⟨⟨ho.t0 k hk, ho.t1 k hk⟩, by rw [inB_z] at hin; omega⟩
      have HEL := Lib.hid (fun k hk => @shift_get l b k hk)
      have hRl := shiftL_length l b
      rw [HG, HE]
      generalize shiftL l b = R at *
      have HTN := Lib.hid (fun k (h : k < l.length) => @take_next R k (by omega))
      have HTA : Hid (R.take l.length = R) := by show _ = _; rw [← hRl, List.take_length]
      have HI := fun w => Lib.hid (within_c b (-(tm l 0)) (1000 - tm l m) w)
      rw [hin] at HI
      clear HG HE hv ho hin hm
      go_enter Try.func49, Try.ntmps49
      go_wp2_with (fail)
      refine HV.out.mono ?_
      rintro e w1 ⟨rfl, hb1⟩
      obtain ⟨a, o, rfl, -, d0_, -, -⟩ := (hr.later hb1.drew).tri hn
      obtain ⟨a', o', he', -, d1_, -, -⟩ := (hr.later hb1.drew).tri hml
      injection he' with he'
      injection he' with he1 he2
      subst he1 he2
      have d0 : w1.drew.cell? ⟨a, o + 0 * 3, none⟩ = some (.int .i64 (tm l 0)) := d0_
      have d1 : w1.drew.cell? ⟨a, o + m * 3, none⟩ = some (.int .i64 (tm l m)) := d1_
      clear d0_ d1_
      rw [Nat.zero_mul, Nat.add_zero] at d0
      go_wp2_with (fail)
      go_region_law (go_simp; refine (HI _).out.mono ?_; rintro e w2 ⟨rfl, rfl⟩; try go_simp)
      all_goals
        go_wp2_with (fail)
        go_loopg [7, 8] l.length (fun gk v' iv wr => ∃ (k : Nat) (v : Value), v = v' ∧ Hid (k + gk = l.length) ∧ iv = .int .i64 (k : Int) ∧ wr.ownsRow w.heap.size 55 3 v (R.take k).length (cellsT (R.take k)) ∧ Below w.heap.size w wr)
        case atStart => exact ⟨0, _, rfl, by simp [Hid], rfl, World.ownsRow_nil _ _ _ _, hb1.drew⟩
        case round =>
          obtain ⟨k, v, rfl, HK, rfl, hown, hb⟩ := hrel
          rcases gk with _ | gi
          · obtain rfl : k = l.length := HK.out
            obtain ⟨A', c', rfl⟩ := own_form hown
            rw [HTA.out] at hown
            go_wp2_with (fail)
            go_ret2
            exact ⟨A', c', by rw [HTA.out]; rfl, hown, hb⟩
          · have hkl : k < l.length := by have := HK.out; omega
            have hkl' : (k : Int) < (l.length : Int) := by omega
            have hEL := HEL.out k hkl
            obtain ⟨b2, o2, he2, _, c0_, c1_, c3_⟩ := (hr.later hb.drew).tri hkl
            injection he2 with he2
            injection he2 with e21 e22
            subst e21 e22
            have c0 : wr.drew.cell? ⟨a, o + k * 3, none⟩ = some (.int .i64 (tm l k)) := c0_
            have c1 : wr.drew.cell? ⟨a, o + k * 3 + 1, none⟩ = some (.int .i64 (lw l k)) := c1_
            have c3 : wr.drew.cell? ⟨a, o + k * 3 + 2, none⟩ = some (.int .i64 (hg l k)) := c3_
            obtain ⟨p0, p1, p2⟩ := HP.out k hkl
            clear c0_ c1_ c3_
            obtain ⟨A1, c1', rfl⟩ := own_form hown
            have HN := HTN.out k hkl
            rw [hEL] at HN
            have hfl : (R.take k).length ≤ 1000 := by rw [List.length_take]; omega
            generalize tm l k = x0 at *
            generalize lw l k = x1 at *
            generalize hg l k = x2 at *
            generalize R.take k = L at *
            have HX := Lib.hid HN
            have howd : wr.drew.ownsRow w.heap.size 55 3 (.slice A1 L.length c1') L.length (cellsT L) := own_call hown (Below.refl _ _).drew
            obtain ⟨A3, c4, W3, E3, ho3, hb3, _⟩ := append_three w.heap.size 22 55 rdg_info Try.underlying22 wr.drew _ L (x0 + b, x1, x2) howd (by omega) hb.drew.size
            have q0 : IntKind.i64.wrap (x0 + b) = x0 + b := by rw [IntWalk.i64_left]; exact IntWalk.wrap64_in _ ⟨by omega, by omega⟩
            have HE3 : Hid (∀ ty, (Builtin.append_ #[22, 22] ty #[.slice A1 L.length c1', .slice (some ⟨wr.heap.size, 0, none⟩) 1 1]).run Try.prog (wr.alloc (.cells #[.int .i64 (IntKind.i64.wrap (x0 + b)), .int .i64 (x1), .int .i64 (x2)] 55)).drew = .ok (.slice A3 (L.length + 1) c4) W3) := fun ty => by
              rw [q0]; exact E3 ty
            have hb4 := hb.drew.trans hb3
            clear E3 hEL HN hown howd q0
            go_wp2_with (fail)
            go_region_law (refine step_append_run rfl (.tmp 36) (.tmp 55) 22 rfl (.slice A1 L.length c1') (.slice (some ⟨wr.heap.size, 0, none⟩) 1 1) (.slice A3 (L.length + 1) c4) W3 (by first | rfl | simp [Act.eval, Act.put]) (by first | rfl | simp [Act.eval, Act.put]) HE3.out ?_)
            all_goals
              go_wp2_with (fail)
              go_roundg gi
              case rel => exact ⟨k + 1, _, rfl, by have := HK.out; show _ = _; omega, by go_num, by rw [HX.out]; exact ho3, hb4⟩
              case measure => omega
    · have hin' : inB b (-(tm l 0)) (1000 - tm l m) = false := by simpa using hin
      have HE : shfE l b = 1 := by rw [shfE, if_pos hv, ← hm, if_neg hin]
      have HG : shfL l b = [] := by rw [shfL, HE]; rfl
      rw [HG, HE]
      have HI := fun w => Lib.hid (within_c b (-(tm l 0)) (1000 - tm l m) w)
      rw [hin'] at HI
      clear HG HE hv ho hin hin' hm
      go_enter Try.func49, Try.ntmps49
      go_wp2_with (fail)
      refine HV.out.mono ?_
      rintro e w1 ⟨rfl, hb1⟩
      obtain ⟨a, o, rfl, -, d0_, -, -⟩ := (hr.later hb1.drew).tri hn
      obtain ⟨a', o', he', -, d1_, -, -⟩ := (hr.later hb1.drew).tri hml
      injection he' with he'
      injection he' with he1 he2
      subst he1 he2
      have d0 : w1.drew.cell? ⟨a, o + 0 * 3, none⟩ = some (.int .i64 (tm l 0)) := d0_
      have d1 : w1.drew.cell? ⟨a, o + m * 3, none⟩ = some (.int .i64 (tm l m)) := d1_
      clear d0_ d1_
      rw [Nat.zero_mul, Nat.add_zero] at d0
      go_wp2_with (fail)
      go_region_law (go_simp; refine (HI _).out.mono ?_; rintro e w2 ⟨rfl, rfl⟩; try go_simp)
      all_goals
        go_wp2_with (fail)
        go_ret2
        exact ⟨none, 0, rfl, World.ownsRow_nil _ _ _ _, hb1.drew⟩
  · have hv' : (validE l != 0) = true := by simpa using hv
    have HB : shfE l b = validE l := by rw [shfE, if_neg hv]
    rw [show shfL l b = [] by rw [shfL, if_neg (by rw [HB]; exact hv)], HB]
    clear HB
    generalize validE l = ev at *
    go_enter Try.func49, Try.ntmps49
    go_wp2_with (fail)
    refine HV.out.mono ?_
    rintro e w1 ⟨rfl, hb1⟩
    go_wp2_with (fail)
    go_ret2
    exact ⟨none, 0, rfl, World.ownsRow_nil _ _ _ _, hb1⟩
end Go.Proofs.Ytbbhaongakmhpaa
