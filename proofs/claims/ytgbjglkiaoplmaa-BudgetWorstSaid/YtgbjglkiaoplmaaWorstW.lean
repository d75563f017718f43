/- The walk of 'BudgetWorst'. -/
import Derived.Test.YtgbjglkiaoplmaaKno
import Derived.Test.YtgbjglkiaoplmaaRws
import Derived.Test.YtgbjglkiaoplmaaRos
namespace Go.Proofs.Ytgbjglkiaoplmaa
open Go.RowKit

theorem wstL_len (l : List It) : (wstL l).length ≤ l.length := by
  unfold wstL; split
  · exact wstTo_len l _
  · simp
set_option maxRecDepth 100000 in
set_option maxHeartbeats 4000000 in
theorem budgetWorst_walk (A : Option Addr) (l : List It) (cap : Nat) (w : World) (hcap : l.length ≤ cap) (hr : Rd w A (cellsI l)) :
    Calls Try.prog 6 #[.slice A l.length cap] w fun e w' => e = .returned (.bool true) ∧ Below w.heap.size w w' := by
  by_cases hL : 50 < l.length
  · have hd : decide (50 < l.length) = true := decide_eq_true hL
    go_enter Try.func6, Try.ntmps6
    go_wp2_with (fail)
    refine (Long_c _ _ _ _).mono ?_
    rintro e q1 ⟨rfl, rfl⟩
    rw [hd]
    go_wp2_with (fail)
    refine (known_c _).mono ?_
    rintro e w2 ⟨rfl, hb2⟩
    have hk2 := hb2
    go_wp2_with (fail)
    go_ret
    exact ⟨rfl, hk2⟩
  · have hd : decide (50 < l.length) = false := decide_eq_false hL
    have HS := fun w hr => Lib.hid (Worst_c A l cap w (by omega) hr)
    have HS2 := fun w hr => Lib.hid (rWorst_c A l cap w (by omega) hcap hr)
    have HSL : Hid ((wstL l).length ≤ 50) := by have := wstL_len l; show _ ≤ _; omega
    by_cases hv : valE l = 0
    · have hiff := wst_some hv
      rw [hv] at HS HS2
      clear hv
      have HI := Lib.hid hiff
      clear hiff
      generalize wstL l = S at *
      by_cases hp : 0 < l.length
      · have hs2 : 0 < S.length := HI.out.2 hp
        have hs : (0 : Int) < (S.length : Int) := by omega
        have hp' : (0 : Int) < (l.length : Int) := by omega
        go_enter Try.func6, Try.ntmps6
        go_wp2_with (fail)
        refine (Long_c _ _ _ _).mono ?_
        rintro e q1 ⟨rfl, rfl⟩
        rw [hd]
        go_wp2_with (fail)
        refine ((HS _ hr).out).mono ?_
        rintro e w2 ⟨A1, c1, rfl, ra0, hb2⟩
        have hk2 := hb2
        go_wp2_with (fail)
        refine ((HS2 _ (hr.later hk2)).out).mono ?_
        rintro e w3 ⟨A2, c2, rfl, rb0, hb3⟩
        have hk3 := bl_call hk2 hb3
        have ra3 := ra0.later hb3
        clear hk2 ra0
        go_wp2_with (fail)
        refine (sameInts_c _ _ _ _ _ _ (by have := HSL.out; omega) ra3 rb0).mono ?_
        rintro e w4 ⟨rfl, hb4⟩
        have hk4 := bl_call hk3 hb4
        have ra4 := ra3.later hb4
        have rb4 := rb0.later hb4
        clear hk3 ra3 rb0
        go_wp2_with (fail)
        refine (known_c _).mono ?_
        rintro e w5 ⟨rfl, hb5⟩
        have hk5 := bl_call hk4 hb5
        have ra5 := ra4.later hb5
        have rb5 := rb4.later hb5
        clear hk4 ra4 rb4
        go_wp2_with (fail)
        go_ret
        exact ⟨rfl, hk5⟩
      · have hs2 : ¬ 0 < S.length := fun h => hp (HI.out.1 h)
        have hs : ¬ (0 : Int) < (S.length : Int) := by omega
        have hp' : ¬ (0 : Int) < (l.length : Int) := by omega
        go_enter Try.func6, Try.ntmps6
        go_wp2_with (fail)
        refine (Long_c _ _ _ _).mono ?_
        rintro e q1 ⟨rfl, rfl⟩
        rw [hd]
        go_wp2_with (fail)
        refine ((HS _ hr).out).mono ?_
        rintro e w2 ⟨A1, c1, rfl, ra0, hb2⟩
        have hk2 := hb2
        go_wp2_with (fail)
        refine ((HS2 _ (hr.later hk2)).out).mono ?_
        rintro e w3 ⟨A2, c2, rfl, rb0, hb3⟩
        have hk3 := bl_call hk2 hb3
        have ra3 := ra0.later hb3
        clear hk2 ra0
        go_wp2_with (fail)
        refine (sameInts_c _ _ _ _ _ _ (by have := HSL.out; omega) ra3 rb0).mono ?_
        rintro e w4 ⟨rfl, hb4⟩
        have hk4 := bl_call hk3 hb4
        have ra4 := ra3.later hb4
        have rb4 := rb0.later hb4
        clear hk3 ra3 rb0
        go_wp2_with (fail)
        refine (known_c _).mono ?_
        rintro e w5 ⟨rfl, hb5⟩
        have hk5 := bl_call hk4 hb5
        have ra5 := ra4.later hb5
        have rb5 := rb4.later hb5
        clear hk4 ra4 rb4
        go_wp2_with (fail)
        go_ret
        exact ⟨rfl, hk5⟩
    · have hv' : (valE l == 0) = false := by rw [beq_eq_false_iff_ne]; exact hv
      generalize wstL l = S at *
      generalize valE l = z at *
      go_enter Try.func6, Try.ntmps6
      go_wp2_with (fail)
      refine (Long_c _ _ _ _).mono ?_
      rintro e q1 ⟨rfl, rfl⟩
      rw [hd]
      go_wp2_with (fail)
      refine ((HS _ hr).out).mono ?_
      rintro e w2 ⟨A1, c1, rfl, ra0, hb2⟩
      have hk2 := hb2
      go_wp2_with (fail)
      refine ((HS2 _ (hr.later hk2)).out).mono ?_
      rintro e w3 ⟨A2, c2, rfl, rb0, hb3⟩
      have hk3 := bl_call hk2 hb3
      have ra3 := ra0.later hb3
      clear hk2 ra0
      go_wp2_with (fail)
      refine (sameInts_c _ _ _ _ _ _ (by have := HSL.out; omega) ra3 rb0).mono ?_
      rintro e w4 ⟨rfl, hb4⟩
      have hk4 := bl_call hk3 hb4
      have ra4 := ra3.later hb4
      have rb4 := rb0.later hb4
      clear hk3 ra3 rb0
      go_wp2_with (fail)
      refine (known_c _).mono ?_
      rintro e w5 ⟨rfl, hb5⟩
      have hk5 := bl_call hk4 hb5
      have ra5 := ra4.later hb5
      have rb5 := rb4.later hb5
      clear hk4 ra4 rb4
      go_wp2_with (fail)
      go_ret
      exact ⟨rfl, hk5⟩
end Go.Proofs.Ytgbjglkiaoplmaa
