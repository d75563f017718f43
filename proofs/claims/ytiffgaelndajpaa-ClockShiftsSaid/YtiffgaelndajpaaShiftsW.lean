/- ClockShifts, walked. -/
import Derived.Test.YtiffgaelndajpaaKnownK
import Derived.Test.YtiffgaelndajpaaWit
namespace Go.Proofs.Ytiffgaelndajpaa
open Go.RowKit

set_option maxRecDepth 100000 in
set_option maxHeartbeats 4000000 in
theorem clockShifts_walk (A : Option Addr) (l : List T3) (c : Nat) (by_ : Int) (w : World) (_hcap : l.length ≤ c) (hr : Rd w A (cellsT l)) (hby : (Lit.int .i64 by_).wf = true) :
    Calls Try.prog 12 #[.slice A l.length c, .int .i64 by_] w fun e w' => e = .returned (.bool true) ∧ Below w.heap.size w w' := by
  have HL := fun w => Lib.hid (long_c A l.length c w)
  have HK := fun w => Lib.hid (known_c w)
  by_cases hlong : 40 < l.length
  · rw [decide_eq_true hlong] at HL
    go_enter Try.func12, Try.ntmps12
    go_wp2_with (fail)
    refine (HL _).out.mono ?_
    rintro e w1 ⟨rfl, rfl⟩
    go_wp2_with (fail)
    refine (HK _).out.mono ?_
    rintro e w2 ⟨rfl, hb2⟩
    go_wp2_with (fail)
    go_ret
    exact ⟨rfl, hb2⟩
  · rw [decide_eq_false hlong] at HL
    have hlen : l.length ≤ 1000 := by omega
    clear hlong
    have H1 := fun w h => Lib.hid (Shift_c A l c by_ w hby hlen h)
    have H2 := fun w h => Lib.hid (rShift_c A l c by_ w hlen h)
    have HS := fun B B' c' c'' w h h' => Lib.hid (rSame_c B B' (movL by_ by_ l) c' c'' w (by unfold movL; split <;> simp <;> omega) h h')
    have hb00 : Below w.heap.size w w := Below.refl _ _
    by_cases hv : movE by_ by_ l = 0
    · obtain ⟨hl, ho, hin⟩ := movE_zero hv
      have hM : movL by_ by_ l = l.map (addJ by_ by_) := by rw [movL, if_pos hv]
      have hml : (movL by_ by_ l).length = l.length := by rw [hM, List.length_map]
      have vl := validE_ok.2 hl
      have vo := validE_ok.2 ho
      have hlate : lateG (movL by_ by_ l) = lateG l := by rw [lateG, lateG, hM, if_pos vo, if_pos vl, late_shift hl ho]
      have hslack : slackG (movL by_ by_ l) = slackG l := by rw [slackG, slackG, hM, if_pos vo, if_pos vl, slack_shift hl ho]
      have hsome : someG (movL by_ by_ l) = someG l := by rw [someG, someG, hM, if_pos vo, if_pos vl, List.length_map]
      have H3 := fun B c' w h => Lib.hid (Late_c B (movL by_ by_ l) c' w (by omega) h)
      have H4 := fun w h => Lib.hid (Late_c A l c w hlen h)
      have H5 := fun B c' w h => Lib.hid (Slack_c B (movL by_ by_ l) c' w (by omega) h)
      have H6 := fun w h => Lib.hid (Slack_c A l c w hlen h)
      rw [hlate, hM, vo, ← hM] at H3
      rw [hslack, hsome, hM, vo, ← hM] at H5
      rw [vl] at H4 H6
      rw [hv] at H1 H2
      clear hlate hslack hsome hM hml vl vo hv hl ho hin
      generalize movL by_ by_ l = M at *
      generalize lateG l = N at *
      generalize slackG l = S at *
      generalize someG l = sm at *
      go_enter Try.func12, Try.ntmps12
      go_wp2_with (fail)
      refine (HL _).out.mono ?_
      rintro e w1 ⟨rfl, rfl⟩
      go_wp2_with (fail)
      refine (H1 _ hr).out.mono ?_
      rintro e w1 ⟨A1, c1, rfl, ho1, hb1⟩
      have hb01 := bl_call hb00 hb1
      go_wp2_with (fail)
      refine (H2 _ (hr.later hb01)).out.mono ?_
      rintro e w2 ⟨A2, c2, rfl, ho2, hb2⟩
      have hb02 := bl_call hb01 hb2
      have hra := (own_rd ho1).1
      have hrb := (own_rd ho2).1
      go_wp2_with (fail)
      refine (HS _ _ _ _ _ (hra.later hb2) hrb).out.mono ?_
      rintro e w3 ⟨rfl, hb3⟩
      have hb03 := bl_call hb02 hb3
      go_wp2_with (fail)
      refine (H3 _ _ _ ((hra.later hb2).later hb3)).out.mono ?_
      rintro e w4 ⟨rfl, hb4⟩
      have hb04 := bl_call hb03 hb4
      go_wp2_with (fail)
      refine (H4 _ (hr.later hb04)).out.mono ?_
      rintro e w5 ⟨rfl, hb5⟩
      have hb05 := bl_call hb04 hb5
      go_wp2_with (fail)
      refine (H5 _ _ _ ((((hra.later hb2).later hb3).later hb4).later hb5)).out.mono ?_
      rintro e w6 ⟨rfl, hb6⟩
      have hb06 := bl_call hb05 hb6
      go_wp2_with (fail)
      refine (H6 _ (hr.later hb06)).out.mono ?_
      rintro e w7 ⟨rfl, hb7⟩
      have hb07 := bl_call hb06 hb7
      go_wp2_with (fail)
      refine (HK _).out.mono ?_
      rintro e wk ⟨rfl, hbk⟩
      go_wp2_with (fail)
      go_ret
      exact ⟨rfl, bl_call hb07 hbk⟩
    · have hv' : (movE by_ by_ l != 0) = true := by simpa using hv
      generalize movL by_ by_ l = M at *
      generalize movE by_ by_ l = v at *
      go_enter Try.func12, Try.ntmps12
      go_wp2_with (fail)
      refine (HL _).out.mono ?_
      rintro e w1 ⟨rfl, rfl⟩
      go_wp2_with (fail)
      refine (H1 _ hr).out.mono ?_
      rintro e w1 ⟨A1, c1, rfl, ho1, hb1⟩
      have hb01 := bl_call hb00 hb1
      go_wp2_with (fail)
      refine (H2 _ (hr.later hb01)).out.mono ?_
      rintro e w2 ⟨A2, c2, rfl, ho2, hb2⟩
      have hb02 := bl_call hb01 hb2
      have hra := (own_rd ho1).1
      have hrb := (own_rd ho2).1
      go_wp2_with (fail)
      refine (HS _ _ _ _ _ (hra.later hb2) hrb).out.mono ?_
      rintro e w3 ⟨rfl, hb3⟩
      have hb03 := bl_call hb02 hb3
      go_wp2_with (fail)
      refine (HK _).out.mono ?_
      rintro e wk ⟨rfl, hbk⟩
      go_wp2_with (fail)
      go_ret
      exact ⟨rfl, bl_call hb03 hbk⟩
end Go.Proofs.Ytiffgaelndajpaa
