/- The walk of the law on short circuits. -/
import Derived.Test.YteoajadcdjaalaaShortM
import Derived.Test.YteoajadcdjaalaaFirstsW
namespace Go.Proofs.Yteoajadcdjaalaa
open Go.RowKit

set_option maxRecDepth 100000 in
set_option maxHeartbeats 2000000 in
theorem circuitShort_walk (n : Int) (A : Option Addr) (l : List G) (c : Nat) (w : World) (_hn : (Lit.int .i64 n).wf = true) (hr : Rd w A (cellsG l)) :
    Calls Try.prog 10 #[.int .i64 n, .slice A l.length c] w fun e w' => e = .returned (.bool true) ∧ Below w.heap.size w w' := by
  have HL := fun w => Lib.hid (long_c A l.length c w)
  have HK := fun w => Lib.hid (known_c w)
  by_cases hlong : 50 < l.length
  · rw [decide_eq_true hlong] at HL
    go_enter Try.func10, Try.ntmps10
    go_wp2_with (fail)
    refine (HL _).out.mono ?_
    rintro e w1 ⟨rfl, rfl⟩
    go_wp2_with (fail)
    refine (HK _).out.mono ?_
    rintro e w2 ⟨rfl, hb2⟩
    go_wp2_with (fail)
    go_ret
    exact ⟨rfl, hb2⟩
  · rw [decide_eq_false hlong] at HL
    have hlen : l.length ≤ 1000 := by omega
    clear hlong
    have H1 := Lib.hid (IsShort_c n A l c w hlen hr)
    have H2 := fun w1 hr1 => Lib.hid (rIsShort_c n A l c w1 hlen hr1)
    have H3 := fun w1 hr1 => Lib.hid (Reduce_c n A l c w1 hlen hr1)
    have hrl : (redL n l).length ≤ 1000 := by
      rw [redL]; split
      · rw [red_len]; have := shortL_len l; omega
      · simp
    have H4 := fun B d w1 hr1 => Lib.hid (IsShort_c n B (redL n l) d w1 hrl hr1)
    have HV : Hid (validE n l = 0 → validE n (redL n l) = 0 ∧ isShortB n (redL n l) = true ∧ isShortB n l = (((redL n l).length : Int) == (l.length : Int))) := fun h => by
      have hr : redL n l = reducedL l := by rw [redL, if_pos h]
      have hv := validE_red h
      rw [hr]
      refine ⟨hv, by rw [isShortB, hv, short_red]; simp, ?_⟩
      rw [isShortB, h, red_len, Bool.eq_iff_iff]
      simp
      omega
    generalize isShortB n l = sb at *
    generalize redL n l = R at *
    generalize isShortB n R = sr at *
    generalize validE n R = er at *
    generalize validE n l = ev at *
    go_enter Try.func10, Try.ntmps10
    go_wp2_with (fail)
    refine (HL _).out.mono ?_
    rintro e w1 ⟨rfl, rfl⟩
    go_wp2_with (fail)
    refine H1.out.mono ?_
    rintro e w1 ⟨rfl, hb1⟩
    go_wp2_with (fail)
    refine (H2 _ (hr.later hb1)).out.mono ?_
    rintro e w2 ⟨rfl, hb2⟩
    have hb12 := bl_call hb1 hb2
    go_wp2_with (fail)
    refine (H3 _ (hr.later hb12)).out.mono ?_
    rintro e w3 ⟨A3, c3, rfl, ho3, hb3⟩
    have hb13 := bl_call hb12 hb3
    by_cases hv : ev = 0
    · obtain ⟨rfl, rfl, hsb⟩ := HV.out hv
      subst hv
      have H4' := H4 A3 c3 w3 (own_rd ho3).1
      clear HV H1 H2 H3 H4
      rcases hq : ((R.length : Int) == (l.length : Int)) with _ | _
      all_goals
        rw [hq] at hsb
        subst hsb
        go_wp2_with (fail)
        refine H4'.out.mono ?_
        rintro e w4 ⟨rfl, hb4⟩
        have hb14 := bl_call hb13 hb4
        go_wp2_with (fail)
        refine (HK _).out.mono ?_
        rintro e w5 ⟨rfl, hb5⟩
        go_wp2_with (fail)
        go_ret
        exact ⟨rfl, bl_call hb14 hb5⟩
    · clear HV
      go_wp2_with (fail)
      refine (HK _).out.mono ?_
      rintro e w5 ⟨rfl, hb5⟩
      go_wp2_with (fail)
      go_ret
      exact ⟨rfl, bl_call hb13 hb5⟩
end Go.Proofs.Yteoajadcdjaalaa
