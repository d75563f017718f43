/- ClockKeeps, walked. -/
import Derived.Test.YtiffgaelndajpaaKnownK
import Derived.Test.YtiffgaelndajpaaRchk
import Derived.Test.YtiffgaelndajpaaRcrw
namespace Go.Proofs.Ytiffgaelndajpaa
open Go.RowKit

set_option maxRecDepth 100000 in
set_option maxHeartbeats 4000000 in
theorem clockKeeps_walk (A : Option Addr) (l : List T3) (c : Nat) (w : World) (_hcap : l.length ≤ c) (hr : Rd w A (cellsT l)) :
    Calls Try.prog 4 #[.slice A l.length c] w fun e w' => e = .returned (.bool true) ∧ Below w.heap.size w w' := by
  have HL := fun w => Lib.hid (long_c A l.length c w)
  have HK := fun w => Lib.hid (known_c w)
  by_cases hlong : 40 < l.length
  · rw [decide_eq_true hlong] at HL
    go_enter Try.func4, Try.ntmps4
    go_wp2_with (fail)
    refine (HL _).out.mono ?_
    rintro e w1 ⟨rfl, rfl⟩
    go_wp2_with (fail)
    refine (HK _).out.mono ?_
    rintro e w2 ⟨rfl, hb2⟩
    go_wp2_with (fail)
    go_ret
    exact ⟨rfl, hb2⟩
  · rw [decide_eq_false hlong] at HL
    have hlen : l.length ≤ 1000 := by omega
    clear hlong
    have H1 := fun w h => Lib.hid (CanKeep_c A l c w hlen h)
    have H2 := fun w h => Lib.hid (rCanKeep_c A l c w hlen h)
    have H3 := fun w h => Lib.hid (Table_c A l c w hlen h)
    cases hc : canG l with
    | true =>
      have hv : validE l = 0 := by
        unfold canG at hc
        split at hc
        · assumption
        · cases hc
      have hl := validE_ok.1 hv
      have hT : tabG l = urgL l := by rw [tabG, hc]; rfl
      have HT : Hid (tabE l (urgL l) = 0) := urg_keeps hl (by rw [canG, if_pos hv] at hc; exact of_decide_eq_true hc)
      have hU : (urgL l).length ≤ 1000 := by have := lenU_le hl; rw [urgL, unitsTo_len]; omega
      have H4 := fun B cb w h h' => Lib.hid (rCheckTable_c A l c B (urgL l) cb w hlen (by omega) h h')
      rw [HT.out] at H4
      rw [hT] at H3
      rw [hc, hv] at H1 H2 H3
      clear hc hv hl hT HT
      generalize urgL l = U at *
      go_enter Try.func4, Try.ntmps4
      go_wp2_with (fail)
      refine (HL _).out.mono ?_
      rintro e w1 ⟨rfl, rfl⟩
      go_wp2_with (fail)
      refine (H1 _ hr).out.mono ?_
      rintro e w1 ⟨rfl, hb1⟩
      go_wp2_with (fail)
      refine (H2 _ (hr.later hb1)).out.mono ?_
      rintro e w2 ⟨rfl, hb2⟩
      have hb12 := bl_call hb1 hb2
      go_wp2_with (fail)
      refine (H3 _ (hr.later hb12)).out.mono ?_
      rintro e w3 ⟨A3, c3, rfl, hr3, hb3⟩
      have hb13 := bl_call hb12 hb3
      go_wp2_with (fail)
      refine (H4 _ _ _ (hr.later hb13) hr3).out.mono ?_
      rintro e w4 ⟨rfl, hb4⟩
      have hb14 := bl_call hb13 hb4
      go_wp2_with (fail)
      refine (HK _).out.mono ?_
      rintro e wk ⟨rfl, hbk⟩
      go_wp2_with (fail)
      go_ret
      exact ⟨rfl, bl_call hb14 hbk⟩
    | false =>
      have hT : tabG l = [] := by rw [tabG, hc]; rfl
      rw [hT] at H3
      rw [hc] at H1 H2 H3
      clear hc hT
      generalize validE l = v at *
      go_enter Try.func4, Try.ntmps4
      go_wp2_with (fail)
      refine (HL _).out.mono ?_
      rintro e w1 ⟨rfl, rfl⟩
      go_wp2_with (fail)
      refine (H1 _ hr).out.mono ?_
      rintro e w1 ⟨rfl, hb1⟩
      go_wp2_with (fail)
      refine (H2 _ (hr.later hb1)).out.mono ?_
      rintro e w2 ⟨rfl, hb2⟩
      have hb12 := bl_call hb1 hb2
      go_wp2_with (fail)
      refine (H3 _ (hr.later hb12)).out.mono ?_
      rintro e w3 ⟨A3, c3, rfl, hr3, hb3⟩
      have hb13 := bl_call hb12 hb3
      go_wp2_with (fail)
      refine (HK _).out.mono ?_
      rintro e wk ⟨rfl, hbk⟩
      go_wp2_with (fail)
      go_ret
      exact ⟨rfl, bl_call hb13 hbk⟩
end Go.Proofs.Ytiffgaelndajpaa
