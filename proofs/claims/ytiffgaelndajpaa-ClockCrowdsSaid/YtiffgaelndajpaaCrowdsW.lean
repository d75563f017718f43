/- ClockCrowds, walked. -/
import Derived.Test.YtiffgaelndajpaaKnownK
import Derived.Test.YtiffgaelndajpaaRcrw
import Derived.Test.YtiffgaelndajpaaRspd
namespace Go.Proofs.Ytiffgaelndajpaa
open Go.RowKit

set_option maxRecDepth 100000 in
set_option maxHeartbeats 4000000 in
theorem clockCrowds_walk (A : Option Addr) (l : List T3) (c : Nat) (w : World) (_hcap : l.length ≤ c) (hr : Rd w A (cellsT l)) :
    Calls Try.prog 9 #[.slice A l.length c] w fun e w' => e = .returned (.bool true) ∧ Below w.heap.size w w' := by
  have HL := fun w => Lib.hid (long_c A l.length c w)
  have HK := fun w => Lib.hid (known_c w)
  by_cases hlong : 40 < l.length
  · rw [decide_eq_true hlong] at HL
    go_enter Try.func9, Try.ntmps9
    go_wp2_with (fail)
    refine (HL _).out.mono ?_
    rintro e w1 ⟨rfl, rfl⟩
    go_wp2_with (fail)
    refine (HK _).out.mono ?_
    rintro e w2 ⟨rfl, hb2⟩
    go_wp2_with (fail)
    go_ret
    exact ⟨rfl, hb2⟩
  · rw [decide_eq_false hlong] at HL
    have hlen : l.length ≤ 1000 := by omega
    clear hlong
    have H1 := fun w h => Lib.hid (Crowded_c A l c w hlen h)
    have H2 := fun w h => Lib.hid (rCrowded_c A l c w hlen h)
    have H3 := fun w h => Lib.hid (Slack_c A l c w hlen h)
    have H4 := fun w h => Lib.hid (rSlack_c A l c w hlen h)
    have H5 := fun w h => Lib.hid (Speed_c A l c w hlen h)
    have H6 := fun w h => Lib.hid (rSpeed_c A l c w hlen h)
    by_cases hv : validE l = 0
    · have hl := validE_ok.1 hv
      have h1 : slackG l = slackL l := by rw [slackG, if_pos hv]
      have h2 : someG l = decide (0 < l.length) := by rw [someG, if_pos hv]
      have h3 : speedG l = speedL l := by rw [speedG, if_pos hv]
      have hsl := late_crowd hl
      have hsp := speed_crowd hl
      rw [h1, h2] at H3 H4
      rw [h3] at H5 H6
      rw [hv] at H1 H2 H3 H4 H5 H6
      have hc : ((cwG l).2.2 = true ∧ decide (slackL l < 0) = true ∧ decide ((speedL l).2 < (speedL l).1) = true) ∨ ((cwG l).2.2 = false ∧ decide (slackL l < 0) = false ∧ decide ((speedL l).2 < (speedL l).1) = false) := by
        cases hx : crowdF l with
        | none =>
          right
          refine ⟨by rw [cwG_none hv hx], ?_, decide_eq_false fun h => (hsp.1 h) hx⟩
          have := hsl.2 hx
          exact decide_eq_false (by omega)
        | some s =>
          left
          refine ⟨by rw [cwG_some hv hx], decide_eq_true ?_, decide_eq_true (hsp.2 (by rw [hx]; simp))⟩
          rcases Int.lt_or_le (slackL l) 0 with y | y
          · exact y
          · rw [hsl.1 y] at hx; cases hx
      clear h1 h2 h3 hsl hsp hv hl
      generalize slackL l = S at *
      generalize speedL l = P at *
      generalize cwG l = C at *
      obtain ⟨c1, c2, c3⟩ := C
      obtain ⟨p, q⟩ := P
      simp only [] at H1 H2 H5 H6 hc
      by_cases hn : 0 < l.length
      · have hn' : (0 : Int) < (l.length : Int) := by omega
        rw [decide_eq_true hn] at H3 H4
        rcases hc with ⟨rfl, hs, hp⟩ | ⟨rfl, hs, hp⟩
        all_goals
          go_enter Try.func9, Try.ntmps9
          go_wp2_with (fail)
          refine (HL _).out.mono ?_
          rintro e w1 ⟨rfl, rfl⟩
          go_wp2_with (fail)
          refine (H1 _ hr).out.mono ?_
          rintro e w1 ⟨rfl, hb1⟩
          go_wp2_with (fail)
          refine (H2 _ (hr.later hb1)).out.mono ?_
          rintro e w2 ⟨rfl, hb2⟩
          have hb12 := bl_call hb1 hb2
          go_wp2_with (fail)
          refine (H3 _ (hr.later hb12)).out.mono ?_
          rintro e w3 ⟨rfl, hb3⟩
          have hb13 := bl_call hb12 hb3
          go_wp2_with (fail)
          refine (H4 _ (hr.later hb13)).out.mono ?_
          rintro e w4 ⟨rfl, hb4⟩
          have hb14 := bl_call hb13 hb4
          go_wp2_with (fail)
          refine (H5 _ (hr.later hb14)).out.mono ?_
          rintro e w5 ⟨rfl, hb5⟩
          have hb15 := bl_call hb14 hb5
          have hx5 : Bx (w5.alloc (.cells #[.int .i64 p, .int .i64 q] 51)) w5.heap.size 51 #[.int .i64 p, .int .i64 q] := Bx.new _ _ _
          have hbl5 := bl_alloc (Below.refl w5.heap.size w5) (.cells #[.int .i64 p, .int .i64 q] 51)
          have hb15a := bl_call hb15 hbl5
          go_wp2_with (fail)
          refine (H6 _ (hr.later hb15a)).out.mono ?_
          rintro e w6 ⟨rfl, hb6⟩
          have hb16 := bl_call hb15a hb6
          have hx6 := hx5.call hb6
          have hx7 := hx6.alloc (.cells #[.int .i64 p, .int .i64 q] 51)
          have hy7 : Bx (w6.alloc (.cells #[.int .i64 p, .int .i64 q] 51)) w6.heap.size 51 #[.int .i64 p, .int .i64 q] := Bx.new _ _ _
          have hb17 := bl_alloc hb16 (.cells #[.int .i64 p, .int .i64 q] 51)
          obtain ⟨y1, y2, _, _⟩ := hx6.two
          obtain ⟨z1, z2, _, _⟩ := hx7.two
          obtain ⟨z3, z4, _, _⟩ := hy7.two
          go_wp2_with (fail)
          refine (HK _).out.mono ?_
          rintro e wk ⟨rfl, hbk⟩
          go_wp2_with (fail)
          go_ret
          exact ⟨rfl, bl_call hb17 hbk⟩
      · have hn' : ¬ (0 : Int) < (l.length : Int) := by omega
        rw [decide_eq_false hn] at H3 H4
        rcases hc with ⟨rfl, hs, hp⟩ | ⟨rfl, hs, hp⟩
        all_goals
          go_enter Try.func9, Try.ntmps9
          go_wp2_with (fail)
          refine (HL _).out.mono ?_
          rintro e w1 ⟨rfl, rfl⟩
          go_wp2_with (fail)
          refine (H1 _ hr).out.mono ?_
          rintro e w1 ⟨rfl, hb1⟩
          go_wp2_with (fail)
          refine (H2 _ (hr.later hb1)).out.mono ?_
          rintro e w2 ⟨rfl, hb2⟩
          have hb12 := bl_call hb1 hb2
          go_wp2_with (fail)
          refine (H3 _ (hr.later hb12)).out.mono ?_
          rintro e w3 ⟨rfl, hb3⟩
          have hb13 := bl_call hb12 hb3
          go_wp2_with (fail)
          refine (H4 _ (hr.later hb13)).out.mono ?_
          rintro e w4 ⟨rfl, hb4⟩
          have hb14 := bl_call hb13 hb4
          go_wp2_with (fail)
          refine (H5 _ (hr.later hb14)).out.mono ?_
          rintro e w5 ⟨rfl, hb5⟩
          have hb15 := bl_call hb14 hb5
          have hx5 : Bx (w5.alloc (.cells #[.int .i64 p, .int .i64 q] 51)) w5.heap.size 51 #[.int .i64 p, .int .i64 q] := Bx.new _ _ _
          have hbl5 := bl_alloc (Below.refl w5.heap.size w5) (.cells #[.int .i64 p, .int .i64 q] 51)
          have hb15a := bl_call hb15 hbl5
          go_wp2_with (fail)
          refine (H6 _ (hr.later hb15a)).out.mono ?_
          rintro e w6 ⟨rfl, hb6⟩
          have hb16 := bl_call hb15a hb6
          have hx6 := hx5.call hb6
          have hx7 := hx6.alloc (.cells #[.int .i64 p, .int .i64 q] 51)
          have hy7 : Bx (w6.alloc (.cells #[.int .i64 p, .int .i64 q] 51)) w6.heap.size 51 #[.int .i64 p, .int .i64 q] := Bx.new _ _ _
          have hb17 := bl_alloc hb16 (.cells #[.int .i64 p, .int .i64 q] 51)
          obtain ⟨y1, y2, _, _⟩ := hx6.two
          obtain ⟨z1, z2, _, _⟩ := hx7.two
          obtain ⟨z3, z4, _, _⟩ := hy7.two
          go_wp2_with (fail)
          refine (HK _).out.mono ?_
          rintro e wk ⟨rfl, hbk⟩
          go_wp2_with (fail)
          go_ret
          exact ⟨rfl, bl_call hb17 hbk⟩
    · have hv' : (validE l != 0) = true := by simpa using hv
      generalize validE l = v at *
      generalize slackG l = S at *
      generalize someG l = sm at *
      generalize speedG l = P at *
      generalize cwG l = C at *
      obtain ⟨c1, c2, c3⟩ := C
      obtain ⟨p, q⟩ := P
      simp only [] at H1 H2 H5 H6
      go_enter Try.func9, Try.ntmps9
      go_wp2_with (fail)
      refine (HL _).out.mono ?_
      rintro e w1 ⟨rfl, rfl⟩
      go_wp2_with (fail)
      refine (H1 _ hr).out.mono ?_
      rintro e w1 ⟨rfl, hb1⟩
      go_wp2_with (fail)
      refine (H2 _ (hr.later hb1)).out.mono ?_
      rintro e w2 ⟨rfl, hb2⟩
      have hb12 := bl_call hb1 hb2
      go_wp2_with (fail)
      refine (H3 _ (hr.later hb12)).out.mono ?_
      rintro e w3 ⟨rfl, hb3⟩
      have hb13 := bl_call hb12 hb3
      go_wp2_with (fail)
      refine (H4 _ (hr.later hb13)).out.mono ?_
      rintro e w4 ⟨rfl, hb4⟩
      have hb14 := bl_call hb13 hb4
      go_wp2_with (fail)
      refine (H5 _ (hr.later hb14)).out.mono ?_
      rintro e w5 ⟨rfl, hb5⟩
      have hb15 := bl_call hb14 hb5
      have hx5 : Bx (w5.alloc (.cells #[.int .i64 p, .int .i64 q] 51)) w5.heap.size 51 #[.int .i64 p, .int .i64 q] := Bx.new _ _ _
      have hbl5 := bl_alloc (Below.refl w5.heap.size w5) (.cells #[.int .i64 p, .int .i64 q] 51)
      have hb15a := bl_call hb15 hbl5
      go_wp2_with (fail)
      refine (H6 _ (hr.later hb15a)).out.mono ?_
      rintro e w6 ⟨rfl, hb6⟩
      have hb16 := bl_call hb15a hb6
      have hx6 := hx5.call hb6
      have hx7 := hx6.alloc (.cells #[.int .i64 p, .int .i64 q] 51)
      have hy7 : Bx (w6.alloc (.cells #[.int .i64 p, .int .i64 q] 51)) w6.heap.size 51 #[.int .i64 p, .int .i64 q] := Bx.new _ _ _
      have hb17 := bl_alloc hb16 (.cells #[.int .i64 p, .int .i64 q] 51)
      obtain ⟨y1, y2, _, _⟩ := hx6.two
      obtain ⟨z1, z2, _, _⟩ := hx7.two
      obtain ⟨z3, z4, _, _⟩ := hy7.two
      go_wp2_with (fail)
      refine (HK _).out.mono ?_
      rintro e wk ⟨rfl, hbk⟩
      go_wp2_with (fail)
      go_ret
      exact ⟨rfl, bl_call hb17 hbk⟩
end Go.Proofs.Ytiffgaelndajpaa
