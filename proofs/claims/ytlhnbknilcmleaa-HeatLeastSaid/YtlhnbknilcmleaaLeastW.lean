/- The walk of the law on the smallest limit. -/
import Derived.Test.YtlhnbknilcmleaaRhot2
import Derived.Test.YtlhnbknilcmleaaKnownH
namespace Go.Proofs.Ytlhnbknilcmleaa
open Go.RowKit

theorem fits_least {n : Int} {l : List T3} {lim : Int} (h : limE n l lim = 0) : fitsG n l lim = decide (leastG n l ≤ lim) := by
  obtain ⟨hv, h0, _⟩ := limE_zero.1 h
  rw [fitsG, decide_eq_true h, Bool.true_and, leastG, if_pos hv, decide_eq_decide]
  exact least_cold h0 l.length
set_option maxRecDepth 100000 in
set_option maxHeartbeats 2000000 in
theorem heatLeast_walk (n : Int) (A : Option Addr) (l : List T3) (c : Nat) (lim : Int) (w : World) (_hcap : l.length ≤ c) (_hn : (Lit.int .i64 n).wf = true) (hr : Rd w A (cellsT l)) (_hl : (Lit.int .i64 lim).wf = true) :
    Calls Try.prog 5 #[.int .i64 n, .slice A l.length c, .int .i64 lim] w fun e w' => e = .returned (.bool true) ∧ Below w.heap.size w w' := by
  have HL := fun w => Lib.hid (long_c A l.length c w)
  have HK := fun w => Lib.hid (known_c w)
  by_cases hlong : 100 < l.length
  · rw [decide_eq_true hlong] at HL
    go_enter Try.func5, Try.ntmps5
    go_wp2_with (fail)
    refine (HL _).out.mono ?_
    rintro e w1 ⟨rfl, rfl⟩
    go_wp2_with (fail)
    refine (HK _).out.mono ?_
    rintro e w2 ⟨rfl, hb2⟩
    go_wp2_with (fail)
    go_ret
    exact ⟨rfl, hb2⟩
  · rw [decide_eq_false hlong] at HL
    have hlen : l.length ≤ 1000 := by omega
    clear hlong
    have H1 := Lib.hid (Least_c n A l c w hlen hr)
    have H2 := fun w1 h => Lib.hid (rLeast_c n A l c w1 hlen h)
    have H3 := fun w1 h => Lib.hid (Fits_c n A l c lim w1 hlen h)
    have HFL := Lib.hid (@fits_least n l lim)
    generalize leastG n l = F at *
    generalize validE n l = vv at *
    by_cases hv : limE n l lim = 0
    · have hfl := HFL.out hv
      rw [hv, hfl] at H3
      clear hfl hv
      go_enter Try.func5, Try.ntmps5
      go_wp2_with (fail)
      refine (HL _).out.mono ?_
      rintro e w1 ⟨rfl, rfl⟩
      go_wp2_with (fail)
      refine H1.out.mono ?_
      rintro e w1 ⟨rfl, hb1⟩
      go_wp2_with (fail)
      refine (H2 _ (hr.later hb1)).out.mono ?_
      rintro e w2 ⟨rfl, hb2⟩
      have hb12 := bl_call hb1 hb2
      go_wp2_with (fail)
      refine (H3 _ (hr.later hb12)).out.mono ?_
      rintro e w3 ⟨rfl, hb3⟩
      go_wp2_with (fail)
      refine (HK _).out.mono ?_
      rintro e wk ⟨rfl, hbk⟩
      go_wp2_with (fail)
      go_ret
      exact ⟨rfl, bl_call (bl_call hb12 hb3) hbk⟩
    · have hv' : (limE n l lim != 0) = true := by simpa using hv
      generalize fitsG n l lim = b at *
      generalize limE n l lim = ev at *
      go_enter Try.func5, Try.ntmps5
      go_wp2_with (fail)
      refine (HL _).out.mono ?_
      rintro e w1 ⟨rfl, rfl⟩
      go_wp2_with (fail)
      refine H1.out.mono ?_
      rintro e w1 ⟨rfl, hb1⟩
      go_wp2_with (fail)
      refine (H2 _ (hr.later hb1)).out.mono ?_
      rintro e w2 ⟨rfl, hb2⟩
      have hb12 := bl_call hb1 hb2
      go_wp2_with (fail)
      refine (H3 _ (hr.later hb12)).out.mono ?_
      rintro e w3 ⟨rfl, hb3⟩
      go_wp2_with (fail)
      refine (HK _).out.mono ?_
      rintro e wk ⟨rfl, hbk⟩
      go_wp2_with (fail)
      go_ret
      exact ⟨rfl, bl_call (bl_call hb12 hb3) hbk⟩
end Go.Proofs.Ytlhnbknilcmleaa
