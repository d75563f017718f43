/- The walk of the law on the fewest coolings. -/
import Derived.Test.YtlhnbknilcmleaaRFew
namespace Go.Proofs.Ytlhnbknilcmleaa
open Go.RowKit

set_option maxRecDepth 100000 in
set_option maxHeartbeats 2000000 in
theorem heatFewest_walk (n : Int) (A : Option Addr) (l : List T3) (c : Nat) (lim : Int) (w : World) (hcap : l.length ≤ c) (_hn : (Lit.int .i64 n).wf = true) (hr : Rd w A (cellsT l)) (_hl : (Lit.int .i64 lim).wf = true) :
    Calls Try.prog 6 #[.int .i64 n, .slice A l.length c, .int .i64 lim] w fun e w' => e = .returned (.bool true) ∧ Below w.heap.size w w' := by
  have HL := fun w => Lib.hid (long_c A l.length c w)
  have HK := fun w => Lib.hid (known_c w)
  by_cases hlong : 100 < l.length
  · rw [decide_eq_true hlong] at HL
    go_enter Try.func6, Try.ntmps6
    go_wp2_with (fail)
    refine (HL _).out.mono ?_
    rintro e w1 ⟨rfl, rfl⟩
    go_wp2_with (fail)
    refine (HK _).out.mono ?_
    rintro e w2 ⟨rfl, hb2⟩
    go_wp2_with (fail)
    go_ret
    exact ⟨rfl, hb2⟩
  · rw [decide_eq_false hlong] at HL
    have hlen : l.length ≤ 1000 := by omega
    clear hlong
    have H1 := Lib.hid (Fewest_c n A l c lim w hlen hr)
    have H2 := fun w1 h => Lib.hid (rFewest_c n A l c lim w1 hlen hcap h)
    by_cases hv : limE n l lim = 0
    · by_cases h100 : lim < 100
      · obtain ⟨e1, e2⟩ := limE_next hv h100
        have hl0 := (limE_zero.1 hv).2.1
        have H3 := fun w1 h => Lib.hid (Fewest_c n A l c (lim + 1) w1 hlen h)
        rw [e1] at H3
        rw [hv] at H1 H2
        generalize fewG n l lim = F at *
        generalize fewG n l (lim + 1) = G at *
        clear hv e1
        go_enter Try.func6, Try.ntmps6
        go_wp2_with (fail)
        refine (HL _).out.mono ?_
        rintro e w1 ⟨rfl, rfl⟩
        go_wp2_with (fail)
        refine H1.out.mono ?_
        rintro e w1 ⟨rfl, hb1⟩
        go_wp2_with (fail)
        refine (H2 _ (hr.later hb1)).out.mono ?_
        rintro e w2 ⟨rfl, hb2⟩
        have hb12 := bl_call hb1 hb2
        go_wp2_with (fail)
        refine (H3 _ (hr.later hb12)).out.mono ?_
        rintro e w3 ⟨rfl, hb3⟩
        go_wp2_with (fail)
        refine (HK _).out.mono ?_
        rintro e w4 ⟨rfl, hb4⟩
        go_wp2_with (fail)
        go_ret
        exact ⟨rfl, bl_call (bl_call hb12 hb3) hb4⟩
      · rw [hv] at H1 H2
        generalize fewG n l lim = F at *
        clear hv
        go_enter Try.func6, Try.ntmps6
        go_wp2_with (fail)
        refine (HL _).out.mono ?_
        rintro e w1 ⟨rfl, rfl⟩
        go_wp2_with (fail)
        refine H1.out.mono ?_
        rintro e w1 ⟨rfl, hb1⟩
        go_wp2_with (fail)
        refine (H2 _ (hr.later hb1)).out.mono ?_
        rintro e w2 ⟨rfl, hb2⟩
        have hb12 := bl_call hb1 hb2
        go_wp2_with (fail)
        refine (HK _).out.mono ?_
        rintro e w4 ⟨rfl, hb4⟩
        go_wp2_with (fail)
        go_ret
        exact ⟨rfl, bl_call hb12 hb4⟩
    · have hv' : (limE n l lim != 0) = true := by simpa using hv
      generalize fewG n l lim = F at *
      generalize limE n l lim = ev at *
      go_enter Try.func6, Try.ntmps6
      go_wp2_with (fail)
      refine (HL _).out.mono ?_
      rintro e w1 ⟨rfl, rfl⟩
      go_wp2_with (fail)
      refine H1.out.mono ?_
      rintro e w1 ⟨rfl, hb1⟩
      go_wp2_with (fail)
      refine (H2 _ (hr.later hb1)).out.mono ?_
      rintro e w2 ⟨rfl, hb2⟩
      have hb12 := bl_call hb1 hb2
      go_wp2_with (fail)
      refine (HK _).out.mono ?_
      rintro e w4 ⟨rfl, hb4⟩
      go_wp2_with (fail)
      go_ret
      exact ⟨rfl, bl_call hb12 hb4⟩
end Go.Proofs.Ytlhnbknilcmleaa
