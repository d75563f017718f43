/- The walk of 'BudgetCloses'. -/
import Derived.Test.YtgbjglkiaoplmaaChancesW
import Derived.Test.YtgbjglkiaoplmaaCls
namespace Go.Proofs.Ytgbjglkiaoplmaa
open Go.RowKit

theorem clsG_ok {l : List It} {n d : Int} (h : clsG l n d = true) : closeB l n d = true ∧ limB n d = true ∧ clsE l n d = 0 := by
  unfold clsG at h
  split at h
  · rename_i h0; exact ⟨h, (clsE_ok h0).2, h0⟩
  · cases h
set_option maxRecDepth 100000 in
set_option maxHeartbeats 4000000 in
theorem budgetCloses_walk (A : Option Addr) (l : List It) (cap : Nat) (m e : Int) (w : World) (_hcap : l.length ≤ cap) (hr : Rd w A (cellsI l)) (_hm : (Lit.int .i64 m).wf = true) (_he : (Lit.int .i64 e).wf = true) :
    Calls Try.prog 5 #[.slice A l.length cap, .agg #[.int .i64 m, .int .i64 e]] w fun f w' => f = .returned (.bool true) ∧ Below w.heap.size w w' := by
  have hk0 := bl_alloc (Below.refl w.heap.size w) (.cells #[.int .i64 m, .int .i64 e] 30)
  have xm0 : Bx (w.alloc (.cells #[.int .i64 m, .int .i64 e] 30)) w.heap.size 30 #[.int .i64 m, .int .i64 e] := Bx.new w _ _
  obtain ⟨fm0, fm1, _, _⟩ := xm0.two
  by_cases hL : 50 < l.length
  · have hd : decide (50 < l.length) = true := decide_eq_true hL
    go_enter Try.func5, Try.ntmps5
    go_wp2_with (fail)
    refine (Long_c _ _ _ _).mono ?_
    rintro e q1 ⟨rfl, rfl⟩
    rw [hd]
    go_wp2_with (fail)
    refine (known_c _).mono ?_
    rintro e w2 ⟨rfl, hb2⟩
    have hk2 := bl_call hk0 hb2
    have xm2 := xm0.call hb2
    clear fm0 fm1 hk0 xm0
    obtain ⟨fm0, fm1, _, _⟩ := xm2.two
    go_wp2_with (fail)
    go_ret
    exact ⟨rfl, hk2⟩
  · have hd : decide (50 < l.length) = false := decide_eq_false hL
    have HB := fun w hr => Lib.hid (Closes_c A l cap m e w (by omega) hr)
    have HR := fun w hr => Lib.hid (rCloses_c A l cap m e w (by omega) hr)
    have HC := fun w hr => Lib.hid (Chance_c A l cap w (by omega) hr)
    by_cases hE : clsG l m e = true ∧ chnE l = 0
    · obtain ⟨hG, hE⟩ := hE
      obtain ⟨g1, g2, g3⟩ := clsG_ok hG
      obtain ⟨h1, h2⟩ := chnE_ok hE
      obtain ⟨f1, f2, f3⟩ := chn_facts hE
      obtain ⟨l1, l2, l3, l4⟩ := limB_iff.1 g2
      have hct := chance_limit f3 h2 (by omega) g1
      rw [hG, g3] at HB HR
      rw [f1, hE] at HC
      have hdd : decide (m * (chanceL l).2 < (chanceL l).1 * e) = false := decide_eq_false hct
      have p1 := mul_in (a := m) (b := (chanceL l).2) (A := 1000000) (B := 100000000) ⟨l3, l4⟩ ⟨by omega, by omega⟩
      have p2 := mul_in (a := (chanceL l).1) (b := e) (A := 100000000) (B := 1000000) ⟨by omega, by omega⟩ ⟨by omega, by omega⟩
      have HLs := fun w => Lib.hid (lless_c m e (chanceL l).1 (chanceL l).2 w (by omega) (by omega))
      rw [hdd] at HLs
      have HF1 := fun w => Lib.hid (fair_c (chanceL l).1 (chanceL l).2 w (by omega) (by omega) (by omega) (by omega))
      have HF2 := fun w => Lib.hid (fair_c m e w (by omega) (by omega) (by omega) (by omega))
      clear hct p1 p2 hdd f1 f2 f3 h1 h2 hE hG g1 g2 g3 l1 l2 l3 l4
      generalize (chanceL l).1 = cn at *
      generalize (chanceL l).2 = cd at *
      go_enter Try.func5, Try.ntmps5
      go_wp2_with (fail)
      refine (Long_c _ _ _ _).mono ?_
      rintro e q1 ⟨rfl, rfl⟩
      rw [hd]
      go_wp2_with (fail)
      refine ((HB _ (hr.later hk0)).out).mono ?_
      rintro e w2 ⟨rfl, hb2⟩
      have hk2 := bl_call hk0 hb2
      have xm2 := xm0.call hb2
      clear fm0 fm1 hk0 xm0
      obtain ⟨fm0, fm1, _, _⟩ := xm2.two
      go_wp2_with (fail)
      refine ((HR _ (hr.later hk2)).out).mono ?_
      rintro e w3 ⟨rfl, hb3⟩
      have hk3 := bl_call hk2 hb3
      have xm3 := xm2.call hb3
      clear fm0 fm1 hk2 xm2
      obtain ⟨fm0, fm1, _, _⟩ := xm3.two
      go_wp2_with (fail)
      refine ((HC _ (hr.later hk3)).out).mono ?_
      rintro e w4 ⟨rfl, hb4⟩
      have hk4 := bl_call hk3 hb4
      have xm4 := xm3.call hb4
      clear fm0 fm1 hk3 xm3
      obtain ⟨fm0, fm1, _, _⟩ := xm4.two
      have hn5 := bl_alloc (Below.refl w4.heap.size w4) (.cells #[.int .i64 cn, .int .i64 cd] 30)
      have y5 : Bx (w4.alloc (.cells #[.int .i64 cn, .int .i64 cd] 30)) w4.heap.size 30 #[.int .i64 cn, .int .i64 cd] := Bx.new w4 _ _
      have hk5 := bl_call hk4 hn5
      have xm5 := xm4.call hn5
      clear fm0 fm1 hk4 xm4
      clear hn5
      obtain ⟨fm0, fm1, _, _⟩ := xm5.two
      obtain ⟨fc0, fc1, _, _⟩ := y5.two
      go_wp2_with (fail)
      refine ((HF1 _).out).mono ?_
      rintro e w6 ⟨rfl, hb6⟩
      have hk6 := bl_call hk5 hb6
      have xm6 := xm5.call hb6
      have xc6 := y5.call hb6
      clear fm0 fm1 fc0 fc1 hk5 xm5 y5
      obtain ⟨fm0, fm1, _, _⟩ := xm6.two
      obtain ⟨fc0, fc1, _, _⟩ := xc6.two
      go_wp2_with (fail)
      refine ((HF2 _).out).mono ?_
      rintro e w7 ⟨rfl, hb7⟩
      have hk7 := bl_call hk6 hb7
      have xm7 := xm6.call hb7
      have xc7 := xc6.call hb7
      clear fm0 fm1 fc0 fc1 hk6 xm6 xc6
      obtain ⟨fm0, fm1, _, _⟩ := xm7.two
      obtain ⟨fc0, fc1, _, _⟩ := xc7.two
      go_wp2_with (fail)
      refine ((HLs _).out).mono ?_
      rintro e w8 ⟨rfl, hb8⟩
      have hk8 := bl_call hk7 hb8
      have xm8 := xm7.call hb8
      have xc8 := xc7.call hb8
      clear fm0 fm1 fc0 fc1 hk7 xm7 xc7
      obtain ⟨fm0, fm1, _, _⟩ := xm8.two
      obtain ⟨fc0, fc1, _, _⟩ := xc8.two
      go_wp2_with (fail)
      refine (known_c _).mono ?_
      rintro e w9 ⟨rfl, hb9⟩
      have hk9 := bl_call hk8 hb9
      have xm9 := xm8.call hb9
      have xc9 := xc8.call hb9
      clear fm0 fm1 fc0 fc1 hk8 xm8 xc8
      obtain ⟨fm0, fm1, _, _⟩ := xm9.two
      obtain ⟨fc0, fc1, _, _⟩ := xc9.two
      go_wp2_with (fail)
      go_ret
      exact ⟨rfl, hk9⟩
    · have hE' : clsG l m e = true → (chnE l == 0) = false := fun h => by rw [beq_eq_false_iff_ne]; exact fun h2 => hE ⟨h, h2⟩
      replace hE' := Lib.hid hE'
      clear hE
      generalize clsG l m e = z at *
      generalize clsE l m e = y at *
      generalize (chnG l).1 = cn at *
      generalize (chnG l).2 = cd at *
      generalize chnE l = x at *
      cases z with
      | true =>
        have hx := hE'.out rfl
        go_enter Try.func5, Try.ntmps5
        go_wp2_with (fail)
        refine (Long_c _ _ _ _).mono ?_
        rintro e q1 ⟨rfl, rfl⟩
        rw [hd]
        go_wp2_with (fail)
        refine ((HB _ (hr.later hk0)).out).mono ?_
        rintro e w2 ⟨rfl, hb2⟩
        have hk2 := bl_call hk0 hb2
        have xm2 := xm0.call hb2
        clear fm0 fm1 hk0 xm0
        obtain ⟨fm0, fm1, _, _⟩ := xm2.two
        go_wp2_with (fail)
        refine ((HR _ (hr.later hk2)).out).mono ?_
        rintro e w3 ⟨rfl, hb3⟩
        have hk3 := bl_call hk2 hb3
        have xm3 := xm2.call hb3
        clear fm0 fm1 hk2 xm2
        obtain ⟨fm0, fm1, _, _⟩ := xm3.two
        go_wp2_with (fail)
        refine ((HC _ (hr.later hk3)).out).mono ?_
        rintro e w4 ⟨rfl, hb4⟩
        have hk4 := bl_call hk3 hb4
        have xm4 := xm3.call hb4
        clear fm0 fm1 hk3 xm3
        obtain ⟨fm0, fm1, _, _⟩ := xm4.two
        have hn5 := bl_alloc (Below.refl w4.heap.size w4) (.cells #[.int .i64 cn, .int .i64 cd] 30)
        have y5 : Bx (w4.alloc (.cells #[.int .i64 cn, .int .i64 cd] 30)) w4.heap.size 30 #[.int .i64 cn, .int .i64 cd] := Bx.new w4 _ _
        have hk5 := bl_call hk4 hn5
        have xm5 := xm4.call hn5
        clear fm0 fm1 hk4 xm4
        clear hn5
        obtain ⟨fm0, fm1, _, _⟩ := xm5.two
        obtain ⟨fc0, fc1, _, _⟩ := y5.two
        go_wp2_with (fail)
        refine (known_c _).mono ?_
        rintro e w6 ⟨rfl, hb6⟩
        have hk6 := bl_call hk5 hb6
        have xm6 := xm5.call hb6
        have xc6 := y5.call hb6
        clear fm0 fm1 fc0 fc1 hk5 xm5 y5
        obtain ⟨fm0, fm1, _, _⟩ := xm6.two
        obtain ⟨fc0, fc1, _, _⟩ := xc6.two
        go_wp2_with (fail)
        go_ret
        exact ⟨rfl, hk6⟩
      | false =>
        go_enter Try.func5, Try.ntmps5
        go_wp2_with (fail)
        refine (Long_c _ _ _ _).mono ?_
        rintro e q1 ⟨rfl, rfl⟩
        rw [hd]
        go_wp2_with (fail)
        refine ((HB _ (hr.later hk0)).out).mono ?_
        rintro e w2 ⟨rfl, hb2⟩
        have hk2 := bl_call hk0 hb2
        have xm2 := xm0.call hb2
        clear fm0 fm1 hk0 xm0
        obtain ⟨fm0, fm1, _, _⟩ := xm2.two
        go_wp2_with (fail)
        refine ((HR _ (hr.later hk2)).out).mono ?_
        rintro e w3 ⟨rfl, hb3⟩
        have hk3 := bl_call hk2 hb3
        have xm3 := xm2.call hb3
        clear fm0 fm1 hk2 xm2
        obtain ⟨fm0, fm1, _, _⟩ := xm3.two
        go_wp2_with (fail)
        refine ((HC _ (hr.later hk3)).out).mono ?_
        rintro e w4 ⟨rfl, hb4⟩
        have hk4 := bl_call hk3 hb4
        have xm4 := xm3.call hb4
        clear fm0 fm1 hk3 xm3
        obtain ⟨fm0, fm1, _, _⟩ := xm4.two
        have hn5 := bl_alloc (Below.refl w4.heap.size w4) (.cells #[.int .i64 cn, .int .i64 cd] 30)
        have y5 : Bx (w4.alloc (.cells #[.int .i64 cn, .int .i64 cd] 30)) w4.heap.size 30 #[.int .i64 cn, .int .i64 cd] := Bx.new w4 _ _
        have hk5 := bl_call hk4 hn5
        have xm5 := xm4.call hn5
        clear fm0 fm1 hk4 xm4
        clear hn5
        obtain ⟨fm0, fm1, _, _⟩ := xm5.two
        obtain ⟨fc0, fc1, _, _⟩ := y5.two
        go_wp2_with (fail)
        refine (known_c _).mono ?_
        rintro e w6 ⟨rfl, hb6⟩
        have hk6 := bl_call hk5 hb6
        have xm6 := xm5.call hb6
        have xc6 := y5.call hb6
        clear fm0 fm1 fc0 fc1 hk5 xm5 y5
        obtain ⟨fm0, fm1, _, _⟩ := xm6.two
        obtain ⟨fc0, fc1, _, _⟩ := xc6.two
        go_wp2_with (fail)
        go_ret
        exact ⟨rfl, hk6⟩
end Go.Proofs.Ytgbjglkiaoplmaa
