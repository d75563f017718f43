/- The walk of 'BudgetAllows'. -/
import Derived.Test.YtgbjglkiaoplmaaKno
import Derived.Test.YtgbjglkiaoplmaaRal
namespace Go.Proofs.Ytgbjglkiaoplmaa
open Go.RowKit

set_option maxRecDepth 100000 in
set_option maxHeartbeats 4000000 in
theorem budgetAllows_walk (A : Option Addr) (l : List It) (cap : Nat) (m e : Int) (B : Option Addr) (ps : List Int) (cap2 : Nat) (w : World) (hcap : l.length ≤ cap) (_hcap2 : ps.length ≤ cap2) (hr : Rd w A (cellsI l)) (_hm : (Lit.int .i64 m).wf = true) (_he : (Lit.int .i64 e).wf = true) (hs : Rd w B (ints ps)) :
    Calls Try.prog 13 #[.slice A l.length cap, .agg #[.int .i64 m, .int .i64 e], .slice B ps.length cap2] w fun f w' => f = .returned (.bool true) ∧ Below w.heap.size w w' := by
  have hk0 := bl_alloc (Below.refl w.heap.size w) (.cells #[.int .i64 m, .int .i64 e] 30)
  have xm0 : Bx (w.alloc (.cells #[.int .i64 m, .int .i64 e] 30)) w.heap.size 30 #[.int .i64 m, .int .i64 e] := Bx.new w _ _
  obtain ⟨fm0, fm1, _, _⟩ := xm0.two
  by_cases hL : 50 < l.length
  · have hd : decide (50 < l.length) = true := decide_eq_true hL
    go_enter Try.func13, Try.ntmps13
    go_wp2_with (fail)
    refine (Long_c _ _ _ _).mono ?_
    rintro e q1 ⟨rfl, rfl⟩
    rw [hd]
    go_wp2_with (fail)
    refine (known_c _).mono ?_
    rintro e w2 ⟨rfl, hb2⟩
    have hk2 := bl_call hk0 hb2
    have xm2 := xm0.call hb2
    clear fm0 fm1 hk0 xm0
    obtain ⟨fm0, fm1, _, _⟩ := xm2.two
    go_wp2_with (fail)
    go_ret
    exact ⟨rfl, hk2⟩
  · have hd : decide (50 < l.length) = false := decide_eq_false hL
    by_cases hL2 : 50 < ps.length
    · have hL3 : (50 : Int) < (ps.length : Int) := by omega
      go_enter Try.func13, Try.ntmps13
      go_wp2_with (fail)
      refine (Long_c _ _ _ _).mono ?_
      rintro e q1 ⟨rfl, rfl⟩
      rw [hd]
      go_wp2_with (fail)
      refine (known_c _).mono ?_
      rintro e w2 ⟨rfl, hb2⟩
      have hk2 := bl_call hk0 hb2
      have xm2 := xm0.call hb2
      clear fm0 fm1 hk0 xm0
      obtain ⟨fm0, fm1, _, _⟩ := xm2.two
      go_wp2_with (fail)
      go_ret
      exact ⟨rfl, hk2⟩
    · have hL3 : ¬ (50 : Int) < (ps.length : Int) := by omega
      have HA := fun w hr hs => Lib.hid (Allow_c A l cap m e B ps cap2 w (by omega) (by omega) hr hs)
      have HR := fun w hr hs => Lib.hid (rAllow_c A l cap m e B ps cap2 w (by omega) hcap (by omega) hr hs)
      have HC := fun w hr => Lib.hid (Closes_c A l cap m e w (by omega) hr)
      by_cases hE : alwE l m e ps = 0
      · obtain ⟨h1, h2⟩ := alw_closes hE
        rw [hE] at HA HR
        rw [h1, h2] at HC
        clear hE h1 h2
        go_enter Try.func13, Try.ntmps13
        go_wp2_with (fail)
        refine (Long_c _ _ _ _).mono ?_
        rintro e q1 ⟨rfl, rfl⟩
        rw [hd]
        go_wp2_with (fail)
        refine ((HA _ (hr.later hk0) (hs.later hk0)).out).mono ?_
        rintro e w2 ⟨rfl, hb2⟩
        have hk2 := bl_call hk0 hb2
        have xm2 := xm0.call hb2
        clear fm0 fm1 hk0 xm0
        obtain ⟨fm0, fm1, _, _⟩ := xm2.two
        go_wp2_with (fail)
        refine ((HR _ (hr.later hk2) (hs.later hk2)).out).mono ?_
        rintro e w3 ⟨rfl, hb3⟩
        have hk3 := bl_call hk2 hb3
        have xm3 := xm2.call hb3
        clear fm0 fm1 hk2 xm2
        obtain ⟨fm0, fm1, _, _⟩ := xm3.two
        go_wp2_with (fail)
        refine ((HC _ (hr.later hk3)).out).mono ?_
        rintro e w4 ⟨rfl, hb4⟩
        have hk4 := bl_call hk3 hb4
        have xm4 := xm3.call hb4
        clear fm0 fm1 hk3 xm3
        obtain ⟨fm0, fm1, _, _⟩ := xm4.two
        go_wp2_with (fail)
        refine (known_c _).mono ?_
        rintro e w5 ⟨rfl, hb5⟩
        have hk5 := bl_call hk4 hb5
        have xm5 := xm4.call hb5
        clear fm0 fm1 hk4 xm4
        obtain ⟨fm0, fm1, _, _⟩ := xm5.two
        go_wp2_with (fail)
        go_ret
        exact ⟨rfl, hk5⟩
      · have hE' : (alwE l m e ps == 0) = false := by rw [beq_eq_false_iff_ne]; exact hE
        generalize alwE l m e ps = E at *
        generalize clsG l m e = z at *
        generalize clsE l m e = y at *
        go_enter Try.func13, Try.ntmps13
        go_wp2_with (fail)
        refine (Long_c _ _ _ _).mono ?_
        rintro e q1 ⟨rfl, rfl⟩
        rw [hd]
        go_wp2_with (fail)
        refine ((HA _ (hr.later hk0) (hs.later hk0)).out).mono ?_
        rintro e w2 ⟨rfl, hb2⟩
        have hk2 := bl_call hk0 hb2
        have xm2 := xm0.call hb2
        clear fm0 fm1 hk0 xm0
        obtain ⟨fm0, fm1, _, _⟩ := xm2.two
        go_wp2_with (fail)
        refine ((HR _ (hr.later hk2) (hs.later hk2)).out).mono ?_
        rintro e w3 ⟨rfl, hb3⟩
        have hk3 := bl_call hk2 hb3
        have xm3 := xm2.call hb3
        clear fm0 fm1 hk2 xm2
        obtain ⟨fm0, fm1, _, _⟩ := xm3.two
        go_wp2_with (fail)
        refine ((HC _ (hr.later hk3)).out).mono ?_
        rintro e w4 ⟨rfl, hb4⟩
        have hk4 := bl_call hk3 hb4
        have xm4 := xm3.call hb4
        clear fm0 fm1 hk3 xm3
        obtain ⟨fm0, fm1, _, _⟩ := xm4.two
        go_wp2_with (fail)
        refine (known_c _).mono ?_
        rintro e w5 ⟨rfl, hb5⟩
        have hk5 := bl_call hk4 hb5
        have xm5 := xm4.call hb5
        clear fm0 fm1 hk4 xm4
        obtain ⟨fm0, fm1, _, _⟩ := xm5.two
        go_wp2_with (fail)
        go_ret
        exact ⟨rfl, hk5⟩
end Go.Proofs.Ytgbjglkiaoplmaa
