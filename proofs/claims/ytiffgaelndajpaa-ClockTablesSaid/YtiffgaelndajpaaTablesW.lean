/- ClockTables, walked. -/
import Derived.Test.YtiffgaelndajpaaKnownK
import Derived.Test.YtiffgaelndajpaaRchk
namespace Go.Proofs.Ytiffgaelndajpaa
open Go.RowKit

set_option maxRecDepth 100000 in
set_option maxHeartbeats 4000000 in
theorem clockTables_walk (A : Option Addr) (l : List T3) (c : Nat) (B : Option Addr) (tb : List Int) (cb : Nat) (w : World) (_hcap : l.length ≤ c) (hr : Rd w A (cellsT l)) (hrb : Rd w B (ints tb)) :
    Calls Try.prog 3 #[.slice A l.length c, .slice B tb.length cb] w fun e w' => e = .returned (.bool true) ∧ Below w.heap.size w w' := by
  have HL := fun w => Lib.hid (long_c A l.length c w)
  have HK := fun w => Lib.hid (known_c w)
  by_cases hlong : 40 < l.length
  · rw [decide_eq_true hlong] at HL
    go_enter Try.func3, Try.ntmps3
    go_wp2_with (fail)
    refine (HL _).out.mono ?_
    rintro e w1 ⟨rfl, rfl⟩
    go_wp2_with (fail)
    refine (HK _).out.mono ?_
    rintro e w2 ⟨rfl, hb2⟩
    go_wp2_with (fail)
    go_ret
    exact ⟨rfl, hb2⟩
  · rw [decide_eq_false hlong] at HL
    have hlen : l.length ≤ 1000 := by omega
    clear hlong
    by_cases h1000 : 1000 < tb.length
    · have h1000' : (1000 : Int) < (tb.length : Int) := by omega
      go_enter Try.func3, Try.ntmps3
      go_wp2_with (fail)
      refine (HL _).out.mono ?_
      rintro e w1 ⟨rfl, rfl⟩
      go_wp2_with (fail)
      refine (HK _).out.mono ?_
      rintro e w2 ⟨rfl, hb2⟩
      go_wp2_with (fail)
      go_ret
      exact ⟨rfl, hb2⟩
    · have h1000' : ¬ (1000 : Int) < (tb.length : Int) := by omega
      have H1 := fun w h => Lib.hid (validate_c A l c w hlen h)
      have H2 := fun w h => Lib.hid (rvalidate_c A l c w hlen h)
      have H3 := fun w h h' => Lib.hid (CheckTable_c A l c B tb cb w hlen (by omega) h h')
      have H4 := fun w h h' => Lib.hid (rCheckTable_c A l c B tb cb w hlen (by omega) h h')
      generalize validE l = v at *
      generalize tabE l tb = t at *
      clear h1000
      go_enter Try.func3, Try.ntmps3
      go_wp2_with (fail)
      refine (HL _).out.mono ?_
      rintro e w1 ⟨rfl, rfl⟩
      go_wp2_with (fail)
      refine (H1 _ hr).out.mono ?_
      rintro e w1 ⟨rfl, hb1⟩
      go_wp2_with (fail)
      refine (H2 _ (hr.later hb1)).out.mono ?_
      rintro e w2 ⟨rfl, hb2⟩
      have hb12 := bl_call hb1 hb2
      go_wp2_with (fail)
      refine (H3 _ (hr.later hb12) (hrb.later hb12)).out.mono ?_
      rintro e w3 ⟨rfl, hb3⟩
      have hb13 := bl_call hb12 hb3
      go_wp2_with (fail)
      refine (H4 _ (hr.later hb13) (hrb.later hb13)).out.mono ?_
      rintro e w4 ⟨rfl, hb4⟩
      have hb14 := bl_call hb13 hb4
      go_wp2_with (fail)
      refine (HK _).out.mono ?_
      rintro e wk ⟨rfl, hbk⟩
      go_wp2_with (fail)
      go_ret
      exact ⟨rfl, bl_call hb14 hbk⟩
end Go.Proofs.Ytiffgaelndajpaa
