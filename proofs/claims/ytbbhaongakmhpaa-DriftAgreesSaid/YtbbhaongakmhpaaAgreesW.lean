/- DriftAgrees, walked. -/
import Derived.Test.YtbbhaongakmhpaaKnownD
import Derived.Test.YtbbhaongakmhpaaRver
namespace Go.Proofs.Ytbbhaongakmhpaa
open Go.RowKit

theorem agr_cls (l : List T3) (r : Int) : (ratE l r ≠ 0 ∧ agrG l r = false ∧ clsG l r = none) ∨ (ratE l r = 0 ∧ agrG l r = true ∧ clsG l r = none) ∨ (ratE l r = 0 ∧ agrG l r = false ∧ ∃ i k, clsG l r = some (i, k)) := by
  by_cases h : ratE l r = 0
  · rcases ha : agreeB l r with _ | _
    · obtain ⟨i, k, hp⟩ := agreeB_some.1 ha
      exact .inr (.inr ⟨h, by rw [agrG_yes h, ha], i, k, by rw [clsG, if_pos h, hp]⟩)
    · exact .inr (.inl ⟨h, by rw [agrG_yes h, ha], by rw [clsG, if_pos h, agreeB_none.1 ha]⟩)
  · exact .inl ⟨h, agrG_no h, by rw [clsG, if_neg h]⟩
set_option maxRecDepth 100000 in
set_option maxHeartbeats 4000000 in
theorem driftAgrees_walk (A : Option Addr) (l : List T3) (c : Nat) (r : Int) (w : World) (_hcap : l.length ≤ c) (hr : Rd w A (cellsT l)) (_hr : (Lit.int .i64 r).wf = true) :
    Calls Try.prog 3 #[.slice A l.length c, .int .i64 r] w fun e w' => e = .returned (.bool true) ∧ Below w.heap.size w w' := by
  have HL := fun w => Lib.hid (long_c A l.length c w)
  have HK := fun w => Lib.hid (known_c w)
  by_cases hlong : 100 < l.length
  · rw [decide_eq_true hlong] at HL
    go_enter Try.func3, Try.ntmps3
    go_wp2_with (fail)
    refine (HL _).out.mono ?_
    rintro e w1 ⟨rfl, rfl⟩
    go_wp2_with (fail)
    refine (HK _).out.mono ?_
    rintro e w2 ⟨rfl, hb2⟩
    go_wp2_with (fail)
    go_ret
    exact ⟨rfl, hb2⟩
  · rw [decide_eq_false hlong] at HL
    have hlen : l.length ≤ 1000 := by omega
    clear hlong
    have H1 := fun w h => Lib.hid (Agree_c A l c r w hlen h)
    have H2 := fun w h => Lib.hid (rAgree_c A l c r w hlen h)
    have H3 := fun w h => Lib.hid (Clash_c A l c r w hlen h)
    have H4 := fun w h => Lib.hid (rClash_c A l c r w hlen h)
    have H5 := fun w h => Lib.hid (validate_c A l c w hlen h)
    have H6 := fun w h => Lib.hid (rvalidate_c A l c w hlen h)
    rcases agr_cls l r with ⟨hv, h1, h2⟩ | ⟨hv, h1, h2⟩ | ⟨hv, h1, i, k, h2⟩
    · have htriv := True.intro
      rw [h1] at H1 H2
      rw [h2] at H3 H4
      have hv' : (ratE l r != 0) = true := by simpa using hv
      clear h1 h2 hv
      generalize ratE l r = E at *
      generalize validE l = V at *
      simp only [pair4] at H3 H4
      go_enter Try.func3, Try.ntmps3
      go_wp2_with (fail)
      refine (HL _).out.mono ?_
      rintro e w1 ⟨rfl, rfl⟩
      have hb0 := Below.refl w.heap.size w
      go_wp2_with (fail)
      refine (H1 _ (hr.later hb0)).out.mono ?_
      rintro e w1_ ⟨rfl, hbx1⟩
      have hb01 := bl_call hb0 hbx1
      go_wp2_with (fail)
      refine (H2 _ (hr.later hb01)).out.mono ?_
      rintro e w2_ ⟨rfl, hbx2⟩
      have hb02 := bl_call hb01 hbx2
      go_wp2_with (fail)
      refine (H3 _ (hr.later hb02)).out.mono ?_
      rintro e w3_ ⟨rfl, hbx3⟩
      have hb03 := bl_call hb02 hbx3
      go_wp2_with (fail)
      refine (H4 _ (hr.later hb03)).out.mono ?_
      rintro e w4_ ⟨rfl, hbx4⟩
      have hb04 := bl_call hb03 hbx4
      go_wp2_with (fail)
      refine (H5 _ (hr.later hb04)).out.mono ?_
      rintro e w5_ ⟨rfl, hbx5⟩
      have hb05 := bl_call hb04 hbx5
      go_wp2_with (fail)
      refine (H6 _ (hr.later hb05)).out.mono ?_
      rintro e w6_ ⟨rfl, hbx6⟩
      have hb06 := bl_call hb05 hbx6
      go_wp2_with (fail)
      refine (HK _).out.mono ?_
      rintro e wk ⟨rfl, hbk⟩
      go_wp2_with (fail)
      go_ret
      exact ⟨rfl, bl_call hb06 hbk⟩
    · have htriv := True.intro
      rw [h1, hv] at H1 H2
      rw [h2, hv] at H3 H4
      clear h1 h2 hv
      generalize validE l = V at *
      simp only [pair4] at H3 H4
      go_enter Try.func3, Try.ntmps3
      go_wp2_with (fail)
      refine (HL _).out.mono ?_
      rintro e w1 ⟨rfl, rfl⟩
      have hb0 := Below.refl w.heap.size w
      go_wp2_with (fail)
      refine (H1 _ (hr.later hb0)).out.mono ?_
      rintro e w1_ ⟨rfl, hbx1⟩
      have hb01 := bl_call hb0 hbx1
      go_wp2_with (fail)
      refine (H2 _ (hr.later hb01)).out.mono ?_
      rintro e w2_ ⟨rfl, hbx2⟩
      have hb02 := bl_call hb01 hbx2
      go_wp2_with (fail)
      refine (H3 _ (hr.later hb02)).out.mono ?_
      rintro e w3_ ⟨rfl, hbx3⟩
      have hb03 := bl_call hb02 hbx3
      go_wp2_with (fail)
      refine (H4 _ (hr.later hb03)).out.mono ?_
      rintro e w4_ ⟨rfl, hbx4⟩
      have hb04 := bl_call hb03 hbx4
      go_wp2_with (fail)
      refine (H5 _ (hr.later hb04)).out.mono ?_
      rintro e w5_ ⟨rfl, hbx5⟩
      have hb05 := bl_call hb04 hbx5
      go_wp2_with (fail)
      refine (H6 _ (hr.later hb05)).out.mono ?_
      rintro e w6_ ⟨rfl, hbx6⟩
      have hb06 := bl_call hb05 hbx6
      go_wp2_with (fail)
      refine (HK _).out.mono ?_
      rintro e wk ⟨rfl, hbk⟩
      go_wp2_with (fail)
      go_ret
      exact ⟨rfl, bl_call hb06 hbk⟩
    · have htriv := True.intro
      rw [h1, hv] at H1 H2
      rw [h2, hv] at H3 H4
      clear h1 h2 hv
      generalize validE l = V at *
      simp only [pair4] at H3 H4
      go_enter Try.func3, Try.ntmps3
      go_wp2_with (fail)
      refine (HL _).out.mono ?_
      rintro e w1 ⟨rfl, rfl⟩
      have hb0 := Below.refl w.heap.size w
      go_wp2_with (fail)
      refine (H1 _ (hr.later hb0)).out.mono ?_
      rintro e w1_ ⟨rfl, hbx1⟩
      have hb01 := bl_call hb0 hbx1
      go_wp2_with (fail)
      refine (H2 _ (hr.later hb01)).out.mono ?_
      rintro e w2_ ⟨rfl, hbx2⟩
      have hb02 := bl_call hb01 hbx2
      go_wp2_with (fail)
      refine (H3 _ (hr.later hb02)).out.mono ?_
      rintro e w3_ ⟨rfl, hbx3⟩
      have hb03 := bl_call hb02 hbx3
      go_wp2_with (fail)
      refine (H4 _ (hr.later hb03)).out.mono ?_
      rintro e w4_ ⟨rfl, hbx4⟩
      have hb04 := bl_call hb03 hbx4
      go_wp2_with (fail)
      refine (H5 _ (hr.later hb04)).out.mono ?_
      rintro e w5_ ⟨rfl, hbx5⟩
      have hb05 := bl_call hb04 hbx5
      go_wp2_with (fail)
      refine (H6 _ (hr.later hb05)).out.mono ?_
      rintro e w6_ ⟨rfl, hbx6⟩
      have hb06 := bl_call hb05 hbx6
      go_wp2_with (fail)
      refine (HK _).out.mono ?_
      rintro e wk ⟨rfl, hbk⟩
      go_wp2_with (fail)
      go_ret
      exact ⟨rfl, bl_call hb06 hbk⟩
end Go.Proofs.Ytbbhaongakmhpaa
