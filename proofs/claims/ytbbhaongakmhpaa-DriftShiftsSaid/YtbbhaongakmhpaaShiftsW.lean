/- DriftShifts, walked. -/
import Derived.Test.YtbbhaongakmhpaaTurnsW
namespace Go.Proofs.Ytbbhaongakmhpaa
open Go.RowKit

set_option maxRecDepth 100000 in
set_option maxHeartbeats 4000000 in
theorem driftShifts_walk (A : Option Addr) (l : List T3) (c : Nat) (r b : Int) (w : World) (_hcap : l.length ≤ c) (hr : Rd w A (cellsT l)) (_hi : (Lit.int .i64 r).wf = true) (hb : (Lit.int .i64 b).wf = true) :
    Calls Try.prog 14 #[.slice A l.length c, .int .i64 r, .int .i64 b] w fun e w' => e = .returned (.bool true) ∧ Below w.heap.size w w' := by
  have HL := fun w => Lib.hid (long_c A l.length c w)
  have HK := fun w => Lib.hid (known_c w)
  by_cases hlong : 100 < l.length
  · rw [decide_eq_true hlong] at HL
    go_enter Try.func14, Try.ntmps14
    go_wp2_with (fail)
    refine (HL _).out.mono ?_
    rintro e w1 ⟨rfl, rfl⟩
    go_wp2_with (fail)
    refine (HK _).out.mono ?_
    rintro e w2 ⟨rfl, hb2⟩
    go_wp2_with (fail)
    go_ret
    exact ⟨rfl, hb2⟩
  · rw [decide_eq_false hlong] at HL
    have hlen : l.length ≤ 1000 := by omega
    clear hlong
    have H1 := fun w h => Lib.hid (Shift_c A l c b w hlen h hb)
    have H2 := fun w h => Lib.hid (rShift_c A l c b w hlen h)
    have H3 := fun w h => Lib.hid (Opposite_c A l c w hlen h)
    have H4 := fun w h => Lib.hid (rOpposite_c A l c w hlen h)
    have hM : (shfL l b).length ≤ 1000 := by
      unfold shfL
      split
      · rw [shiftL_length]; exact hlen
      · simp
    have hN : (oppG l).length ≤ 1000 := by
      unfold oppG
      split
      · rw [oppL_length]; exact hlen
      · simp
    have HS1 := fun B B' c' c'' w h h' => Lib.hid (same_c B B' (shfL l b) (shfL l b) c' c'' w (by omega) h h')
    have HS2 := fun B B' c' c'' w h h' => Lib.hid (same_c B B' (oppG l) (oppG l) c' c'' w (by omega) h h')
    rw [decide_eq_true rfl] at HS1 HS2
    have H5 := fun w h => Lib.hid (Agree_c A l c r w hlen h)
    have H6 := fun B d w h => Lib.hid (Agree_c B (shfL l b) d r w hM h)
    have H7 := fun B d w h => Lib.hid (Agree_c B (oppG l) d r w hN h)
    by_cases hv : validE l = 0
    · have hl := validE_ok.1 hv
      have hO : oppG l = oppL l := by rw [oppG, if_pos hv]
      obtain ⟨e1, e2⟩ := same_agr (r := r) hv (validE_ok.2 (opp_ok hl)) (fun h => opp_agree hl h)
      rw [← hO] at e1 e2
      rw [e1, e2] at H7
      by_cases hs : shfE l b = 0
      · have hS : shfL l b = shiftL l b := by rw [shfL, if_pos hs]
        have hok : Ok (shiftL l b) := by
          rw [shift_ok hl]
          unfold shfE at hs
          rw [if_pos hv] at hs
          split at hs
          · assumption
          · cases hs
        obtain ⟨f1, f2⟩ := same_agr (r := r) hv (validE_ok.2 hok) (fun h => shift_agree hl hok h)
        rw [← hS] at f1 f2
        rw [f1, f2] at H6
        rw [hs] at H1 H2
        rw [hv] at H3 H4
        clear e1 e2 f1 f2 hS hok hO hl hv hs
        generalize shfL l b = M at *
        generalize oppG l = N at *
        generalize agrG l r = G at *
        generalize ratE l r = R at *
        go_enter Try.func14, Try.ntmps14
        go_wp2_with (fail)
        refine (HL _).out.mono ?_
        rintro e w1 ⟨rfl, rfl⟩
        have hb0 := Below.refl w.heap.size w
        go_wp2_with (fail)
        refine (H1 _ (hr.later hb0)).out.mono ?_
        rintro e w1_ ⟨A1, c1, rfl, ho1, hbx1⟩
        have hb01 := bl_call hb0 hbx1
        go_wp2_with (fail)
        refine (H2 _ (hr.later hb01)).out.mono ?_
        rintro e w2_ ⟨A2, c2, rfl, ho2, hbx2⟩
        have hb02 := bl_call hb01 hbx2
        go_wp2_with (fail)
        refine (H3 _ (hr.later hb02)).out.mono ?_
        rintro e w3_ ⟨A3, c3, rfl, ho3, hbx3⟩
        have hb03 := bl_call hb02 hbx3
        go_wp2_with (fail)
        refine (H4 _ (hr.later hb03)).out.mono ?_
        rintro e w4_ ⟨A4, c4, rfl, ho4, hbx4⟩
        have hb04 := bl_call hb03 hbx4
        have hr1 := (own_rd ho1).1
        have hr2 := (own_rd ho2).1
        have hr3 := (own_rd ho3).1
        have hr4 := (own_rd ho4).1
        go_wp2_with (fail)
        refine (HS1 _ _ _ _ _ (((hr1.later hbx2).later hbx3).later hbx4) ((hr2.later hbx3).later hbx4)).out.mono ?_
        rintro e w5_ ⟨rfl, hbx5⟩
        have hb05 := bl_call hb04 hbx5
        go_wp2_with (fail)
        refine (HS2 _ _ _ _ _ ((hr3.later hbx4).later hbx5) (hr4.later hbx5)).out.mono ?_
        rintro e w6_ ⟨rfl, hbx6⟩
        have hb06 := bl_call hb05 hbx6
        go_wp2_with (fail)
        refine (H5 _ (hr.later hb06)).out.mono ?_
        rintro e w7_ ⟨rfl, hbx7⟩
        have hb07 := bl_call hb06 hbx7
        go_wp2_with (fail)
        refine (H6 _ _ _ ((((((hr1.later hbx2).later hbx3).later hbx4).later hbx5).later hbx6).later hbx7)).out.mono ?_
        rintro e w8_ ⟨rfl, hbx8⟩
        have hb08 := bl_call hb07 hbx8
        go_wp2_with (fail)
        refine (H7 _ _ _ (((((hr3.later hbx4).later hbx5).later hbx6).later hbx7).later hbx8)).out.mono ?_
        rintro e w9_ ⟨rfl, hbx9⟩
        have hb09 := bl_call hb08 hbx9
        go_wp2_with (fail)
        refine (HK _).out.mono ?_
        rintro e wk ⟨rfl, hbk⟩
        go_wp2_with (fail)
        go_ret
        exact ⟨rfl, bl_call hb09 hbk⟩
      · have hs' : (shfE l b != 0) = true := by simpa using hs
        rw [hv] at H3 H4
        clear e1 e2 hO hl hv
        generalize shfE l b = E at *
        generalize shfL l b = M at *
        generalize oppG l = N at *
        generalize agrG l r = G at *
        generalize ratE l r = R at *
        generalize agrG M r = G2 at *
        generalize ratE M r = R2 at *
        go_enter Try.func14, Try.ntmps14
        go_wp2_with (fail)
        refine (HL _).out.mono ?_
        rintro e w1 ⟨rfl, rfl⟩
        have hb0 := Below.refl w.heap.size w
        go_wp2_with (fail)
        refine (H1 _ (hr.later hb0)).out.mono ?_
        rintro e w1_ ⟨A1, c1, rfl, ho1, hbx1⟩
        have hb01 := bl_call hb0 hbx1
        go_wp2_with (fail)
        refine (H2 _ (hr.later hb01)).out.mono ?_
        rintro e w2_ ⟨A2, c2, rfl, ho2, hbx2⟩
        have hb02 := bl_call hb01 hbx2
        go_wp2_with (fail)
        refine (H3 _ (hr.later hb02)).out.mono ?_
        rintro e w3_ ⟨A3, c3, rfl, ho3, hbx3⟩
        have hb03 := bl_call hb02 hbx3
        go_wp2_with (fail)
        refine (H4 _ (hr.later hb03)).out.mono ?_
        rintro e w4_ ⟨A4, c4, rfl, ho4, hbx4⟩
        have hb04 := bl_call hb03 hbx4
        have hr1 := (own_rd ho1).1
        have hr2 := (own_rd ho2).1
        have hr3 := (own_rd ho3).1
        have hr4 := (own_rd ho4).1
        go_wp2_with (fail)
        refine (HS1 _ _ _ _ _ (((hr1.later hbx2).later hbx3).later hbx4) ((hr2.later hbx3).later hbx4)).out.mono ?_
        rintro e w5_ ⟨rfl, hbx5⟩
        have hb05 := bl_call hb04 hbx5
        go_wp2_with (fail)
        refine (HS2 _ _ _ _ _ ((hr3.later hbx4).later hbx5) (hr4.later hbx5)).out.mono ?_
        rintro e w6_ ⟨rfl, hbx6⟩
        have hb06 := bl_call hb05 hbx6
        go_wp2_with (fail)
        refine (H5 _ (hr.later hb06)).out.mono ?_
        rintro e w7_ ⟨rfl, hbx7⟩
        have hb07 := bl_call hb06 hbx7
        go_wp2_with (fail)
        refine (H6 _ _ _ ((((((hr1.later hbx2).later hbx3).later hbx4).later hbx5).later hbx6).later hbx7)).out.mono ?_
        rintro e w8_ ⟨rfl, hbx8⟩
        have hb08 := bl_call hb07 hbx8
        go_wp2_with (fail)
        refine (H7 _ _ _ (((((hr3.later hbx4).later hbx5).later hbx6).later hbx7).later hbx8)).out.mono ?_
        rintro e w9_ ⟨rfl, hbx9⟩
        have hb09 := bl_call hb08 hbx9
        go_wp2_with (fail)
        refine (HK _).out.mono ?_
        rintro e wk ⟨rfl, hbk⟩
        go_wp2_with (fail)
        go_ret
        exact ⟨rfl, bl_call hb09 hbk⟩
    · have hv' : (validE l != 0) = true := by simpa using hv
      generalize validE l = v at *
      generalize shfE l b = E at *
      generalize shfL l b = M at *
      generalize oppG l = N at *
      generalize agrG l r = G at *
      generalize ratE l r = R at *
      generalize agrG M r = G2 at *
      generalize ratE M r = R2 at *
      generalize agrG N r = G3 at *
      generalize ratE N r = R3 at *
      go_enter Try.func14, Try.ntmps14
      go_wp2_with (fail)
      refine (HL _).out.mono ?_
      rintro e w1 ⟨rfl, rfl⟩
      have hb0 := Below.refl w.heap.size w
      go_wp2_with (fail)
      refine (H1 _ (hr.later hb0)).out.mono ?_
      rintro e w1_ ⟨A1, c1, rfl, ho1, hbx1⟩
      have hb01 := bl_call hb0 hbx1
      go_wp2_with (fail)
      refine (H2 _ (hr.later hb01)).out.mono ?_
      rintro e w2_ ⟨A2, c2, rfl, ho2, hbx2⟩
      have hb02 := bl_call hb01 hbx2
      go_wp2_with (fail)
      refine (H3 _ (hr.later hb02)).out.mono ?_
      rintro e w3_ ⟨A3, c3, rfl, ho3, hbx3⟩
      have hb03 := bl_call hb02 hbx3
      go_wp2_with (fail)
      refine (H4 _ (hr.later hb03)).out.mono ?_
      rintro e w4_ ⟨A4, c4, rfl, ho4, hbx4⟩
      have hb04 := bl_call hb03 hbx4
      have hr1 := (own_rd ho1).1
      have hr2 := (own_rd ho2).1
      have hr3 := (own_rd ho3).1
      have hr4 := (own_rd ho4).1
      go_wp2_with (fail)
      refine (HS1 _ _ _ _ _ (((hr1.later hbx2).later hbx3).later hbx4) ((hr2.later hbx3).later hbx4)).out.mono ?_
      rintro e w5_ ⟨rfl, hbx5⟩
      have hb05 := bl_call hb04 hbx5
      go_wp2_with (fail)
      refine (HS2 _ _ _ _ _ ((hr3.later hbx4).later hbx5) (hr4.later hbx5)).out.mono ?_
      rintro e w6_ ⟨rfl, hbx6⟩
      have hb06 := bl_call hb05 hbx6
      go_wp2_with (fail)
      refine (H5 _ (hr.later hb06)).out.mono ?_
      rintro e w7_ ⟨rfl, hbx7⟩
      have hb07 := bl_call hb06 hbx7
      go_wp2_with (fail)
      refine (H6 _ _ _ ((((((hr1.later hbx2).later hbx3).later hbx4).later hbx5).later hbx6).later hbx7)).out.mono ?_
      rintro e w8_ ⟨rfl, hbx8⟩
      have hb08 := bl_call hb07 hbx8
      go_wp2_with (fail)
      refine (H7 _ _ _ (((((hr3.later hbx4).later hbx5).later hbx6).later hbx7).later hbx8)).out.mono ?_
      rintro e w9_ ⟨rfl, hbx9⟩
      have hb09 := bl_call hb08 hbx9
      go_wp2_with (fail)
      refine (HK _).out.mono ?_
      rintro e wk ⟨rfl, hbk⟩
      go_wp2_with (fail)
      go_ret
      exact ⟨rfl, bl_call hb09 hbk⟩
end Go.Proofs.Ytbbhaongakmhpaa
