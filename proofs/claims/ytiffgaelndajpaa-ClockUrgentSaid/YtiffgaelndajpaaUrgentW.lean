/- ClockUrgent, walked. -/
import Derived.Test.YtiffgaelndajpaaKnownK
import Derived.Test.YtiffgaelndajpaaRends
namespace Go.Proofs.Ytiffgaelndajpaa
open Go.RowKit

set_option maxRecDepth 100000 in
set_option maxHeartbeats 4000000 in
theorem clockUrgent_walk (A : Option Addr) (l : List T3) (c : Nat) (w : World) (_hcap : l.length ≤ c) (hr : Rd w A (cellsT l)) :
    Calls Try.prog 5 #[.slice A l.length c] w fun e w' => e = .returned (.bool true) ∧ Below w.heap.size w w' := by
  have HL := fun w => Lib.hid (long_c A l.length c w)
  have HK := fun w => Lib.hid (known_c w)
  by_cases hlong : 40 < l.length
  · rw [decide_eq_true hlong] at HL
    go_enter Try.func5, Try.ntmps5
    go_wp2_with (fail)
    refine (HL _).out.mono ?_
    rintro e w1 ⟨rfl, rfl⟩
    go_wp2_with (fail)
    refine (HK _).out.mono ?_
    rintro e w2 ⟨rfl, hb2⟩
    go_wp2_with (fail)
    go_ret
    exact ⟨rfl, hb2⟩
  · rw [decide_eq_false hlong] at HL
    have hlen : l.length ≤ 1000 := by omega
    clear hlong
    have H1 := fun w h => Lib.hid (Urgent_c A l c w hlen h)
    have H2 := fun w h => Lib.hid (rUrgent_c A l c w hlen h)
    have H3 := fun w h => Lib.hid (Ends_c A l c w hlen h)
    have H4 := fun w h => Lib.hid (rEnds_c A l c w hlen h)
    have HU : Hid ((urgG l).length ≤ 9223372036854775806) := by
      show _ ≤ _
      unfold urgG
      split
      · rename_i h
        have := lenU_le (validE_ok.1 h)
        rw [urgL, unitsTo_len]; omega
      · simp
    have HE : Hid ((endsG l).length ≤ 9223372036854775806) := by
      show _ ≤ _
      unfold endsG
      split
      · rw [endsL_len]; omega
      · simp
    generalize validE l = v at *
    generalize urgG l = U at *
    generalize endsG l = E at *
    go_enter Try.func5, Try.ntmps5
    go_wp2_with (fail)
    refine (HL _).out.mono ?_
    rintro e w1 ⟨rfl, rfl⟩
    go_wp2_with (fail)
    refine (H1 _ hr).out.mono ?_
    rintro e w1 ⟨A1, c1, rfl, hr1, hb1⟩
    go_wp2_with (fail)
    refine (H2 _ (hr.later hb1)).out.mono ?_
    rintro e w2 ⟨A2, c2, rfl, hr2, hb2⟩
    have hb12 := bl_call hb1 hb2
    go_wp2_with (fail)
    refine (H3 _ (hr.later hb12)).out.mono ?_
    rintro e w3 ⟨A3, c3, rfl, hr3, hb3⟩
    have hb13 := bl_call hb12 hb3
    go_wp2_with (fail)
    refine (H4 _ (hr.later hb13)).out.mono ?_
    rintro e w4 ⟨A4, c4, rfl, hr4, hb4⟩
    have hb14 := bl_call hb13 hb4
    have hra := hr1.later (bl_call (bl_call hb2 hb3) hb4)
    have hrb := hr2.later (bl_call hb3 hb4)
    have hrc := hr3.later hb4
    have HS1 := Lib.hid (sameInts_c A1 A2 U U c1 c2 w4 HU.out hra hrb)
    rw [decide_eq_true rfl] at HS1
    go_wp2_with (fail)
    refine HS1.out.mono ?_
    rintro e w5 ⟨rfl, hb5⟩
    have hb15 := bl_call hb14 hb5
    have HS2 := Lib.hid (sameInts_c A3 A4 E E c3 c4 w5 HE.out (hrc.later hb5) (hr4.later hb5))
    rw [decide_eq_true rfl] at HS2
    go_wp2_with (fail)
    refine HS2.out.mono ?_
    rintro e w6 ⟨rfl, hb6⟩
    have hb16 := bl_call hb15 hb6
    go_wp2_with (fail)
    refine (HK _).out.mono ?_
    rintro e wk ⟨rfl, hbk⟩
    go_wp2_with (fail)
    go_ret
    exact ⟨rfl, bl_call hb16 hbk⟩
end Go.Proofs.Ytiffgaelndajpaa
