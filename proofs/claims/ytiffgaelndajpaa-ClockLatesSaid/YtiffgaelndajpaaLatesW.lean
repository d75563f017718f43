/- ClockLates, walked. -/
import Derived.Test.YtiffgaelndajpaaKnownK
import Derived.Test.YtiffgaelndajpaaRends
import Derived.Test.YtiffgaelndajpaaChk2
namespace Go.Proofs.Ytiffgaelndajpaa
open Go.RowKit

set_option maxRecDepth 100000 in
set_option maxHeartbeats 4000000 in
theorem clockLates_walk (A : Option Addr) (l : List T3) (c : Nat) (w : World) (_hcap : l.length ≤ c) (hr : Rd w A (cellsT l)) :
    Calls Try.prog 6 #[.slice A l.length c] w fun e w' => e = .returned (.bool true) ∧ Below w.heap.size w w' := by
  have HL := fun w => Lib.hid (long_c A l.length c w)
  have HK := fun w => Lib.hid (known_c w)
  by_cases hlong : 40 < l.length
  · rw [decide_eq_true hlong] at HL
    go_enter Try.func6, Try.ntmps6
    go_wp2_with (fail)
    refine (HL _).out.mono ?_
    rintro e w1 ⟨rfl, rfl⟩
    go_wp2_with (fail)
    refine (HK _).out.mono ?_
    rintro e w2 ⟨rfl, hb2⟩
    go_wp2_with (fail)
    go_ret
    exact ⟨rfl, hb2⟩
  · rw [decide_eq_false hlong] at HL
    have hlen : l.length ≤ 1000 := by omega
    clear hlong
    have H1 := fun w h => Lib.hid (Late_c A l c w hlen h)
    have H2 := fun w h => Lib.hid (rLate_c A l c w hlen h)
    by_cases hv : validE l = 0
    · have hl := validE_ok.1 hv
      have H3 := fun w h => Lib.hid (CanKeep_c A l c w hlen h)
      have H4 := fun w h => Lib.hid (Urgent_c A l c w hlen h)
      have hU : (urgL l).length ≤ 1000 := by have := lenU_le hl; rw [urgL, unitsTo_len]; omega
      have H5 := fun B cb w h h' => Lib.hid (CheckTable_c A l c B (urgL l) cb w hlen (by omega) h h')
      have hL : lateG l = lateL l := by rw [lateG, if_pos hv]
      have hC : canG l = decide (lateL l ≤ 0) := by rw [canG, if_pos hv]; rfl
      have hG : urgG l = urgL l := by rw [urgG, if_pos hv]
      have HT := Lib.hid (urg_keeps hl)
      rw [hL, hv] at H1 H2
      rw [hC, hv] at H3
      rw [hG, hv] at H4
      clear hv hl hL hC hG
      generalize urgL l = U at *
      generalize tabE l U = t at *
      generalize lateL l = M at *
      by_cases hM : M ≤ 0
      · obtain rfl := HT.out hM
        rw [decide_eq_true hM] at H3
        clear HT
        go_enter Try.func6, Try.ntmps6
        go_wp2_with (fail)
        refine (HL _).out.mono ?_
        rintro e w1 ⟨rfl, rfl⟩
        go_wp2_with (fail)
        refine (H1 _ hr).out.mono ?_
        rintro e w1 ⟨rfl, hb1⟩
        go_wp2_with (fail)
        refine (H2 _ (hr.later hb1)).out.mono ?_
        rintro e w2 ⟨rfl, hb2⟩
        have hb12 := bl_call hb1 hb2
        go_wp2_with (fail)
        refine (H3 _ (hr.later hb12)).out.mono ?_
        rintro e w3 ⟨rfl, hb3⟩
        have hb13 := bl_call hb12 hb3
        go_wp2_with (fail)
        refine (H4 _ (hr.later hb13)).out.mono ?_
        rintro e w4 ⟨A4, c4, rfl, hr4, hb4⟩
        have hb14 := bl_call hb13 hb4
        go_wp2_with (fail)
        refine (H5 _ _ _ (hr.later hb14) hr4).out.mono ?_
        rintro e w5 ⟨rfl, hb5⟩
        have hb15 := bl_call hb14 hb5
        go_wp2_with (fail)
        refine (HK _).out.mono ?_
        rintro e wk ⟨rfl, hbk⟩
        go_wp2_with (fail)
        go_ret
        exact ⟨rfl, bl_call hb15 hbk⟩
      · have hMd : decide (M ≤ 0) = false := decide_eq_false hM
        rw [hMd] at H3
        clear HT H5
        go_enter Try.func6, Try.ntmps6
        go_wp2_with (fail)
        refine (HL _).out.mono ?_
        rintro e w1 ⟨rfl, rfl⟩
        go_wp2_with (fail)
        refine (H1 _ hr).out.mono ?_
        rintro e w1 ⟨rfl, hb1⟩
        go_wp2_with (fail)
        refine (H2 _ (hr.later hb1)).out.mono ?_
        rintro e w2 ⟨rfl, hb2⟩
        have hb12 := bl_call hb1 hb2
        go_wp2_with (fail)
        refine (H3 _ (hr.later hb12)).out.mono ?_
        rintro e w3 ⟨rfl, hb3⟩
        have hb13 := bl_call hb12 hb3
        go_wp2_with (fail)
        refine (H4 _ (hr.later hb13)).out.mono ?_
        rintro e w4 ⟨A4, c4, rfl, hr4, hb4⟩
        have hb14 := bl_call hb13 hb4
        go_wp2_with (fail)
        refine (HK _).out.mono ?_
        rintro e wk ⟨rfl, hbk⟩
        go_wp2_with (fail)
        go_ret
        exact ⟨rfl, bl_call hb14 hbk⟩
    · have hv' : (validE l != 0) = true := by simpa using hv
      generalize validE l = v at *
      generalize lateG l = M at *
      go_enter Try.func6, Try.ntmps6
      go_wp2_with (fail)
      refine (HL _).out.mono ?_
      rintro e w1 ⟨rfl, rfl⟩
      go_wp2_with (fail)
      refine (H1 _ hr).out.mono ?_
      rintro e w1 ⟨rfl, hb1⟩
      go_wp2_with (fail)
      refine (H2 _ (hr.later hb1)).out.mono ?_
      rintro e w2 ⟨rfl, hb2⟩
      have hb12 := bl_call hb1 hb2
      go_wp2_with (fail)
      refine (HK _).out.mono ?_
      rintro e wk ⟨rfl, hbk⟩
      go_wp2_with (fail)
      go_ret
      exact ⟨rfl, bl_call hb12 hbk⟩
end Go.Proofs.Ytiffgaelndajpaa
