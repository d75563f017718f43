/- DriftSlowest, walked. -/
import Derived.Test.YtbbhaongakmhpaaKnownD
import Derived.Test.YtbbhaongakmhpaaRste
namespace Go.Proofs.Ytbbhaongakmhpaa
open Go.RowKit

set_option maxRecDepth 100000 in
set_option maxHeartbeats 4000000 in
theorem driftSlowest_walk (A : Option Addr) (l : List T3) (c : Nat) (w : World) (_hcap : l.length ≤ c) (hr : Rd w A (cellsT l)) :
    Calls Try.prog 5 #[.slice A l.length c] w fun e w' => e = .returned (.bool true) ∧ Below w.heap.size w w' := by
  have HL := fun w => Lib.hid (long_c A l.length c w)
  have HK := fun w => Lib.hid (known_c w)
  by_cases hlong : 100 < l.length
  · rw [decide_eq_true hlong] at HL
    go_enter Try.func5, Try.ntmps5
    go_wp2_with (fail)
    refine (HL _).out.mono ?_
    rintro e w1 ⟨rfl, rfl⟩
    go_wp2_with (fail)
    refine (HK _).out.mono ?_
    rintro e w2 ⟨rfl, hb2⟩
    go_wp2_with (fail)
    go_ret
    exact ⟨rfl, hb2⟩
  · rw [decide_eq_false hlong] at HL
    have hlen : l.length ≤ 1000 := by omega
    clear hlong
    have H1 := fun w h => Lib.hid (Slowest_c A l c w hlen h)
    have H2 := fun w h => Lib.hid (rSlowest_c A l c w hlen h)
    have H3 := fun w h => Lib.hid (Steepest_c A l c w hlen h)
    have H4 := fun w h => Lib.hid (rSteepest_c A l c w hlen h)
    by_cases hv : validE l = 0
    · have ho := validE_ok.1 hv
      have hs := steep_all ho
      obtain ⟨p1, p2, p3, p4⟩ := ratN_pos hs.den hs.num
      obtain ⟨u1, u2⟩ := slow_up ho
      have hS : sloG l = slowG l := by rw [sloG, if_pos hv]
      have hT : steG l = ratN (stL l) := by rw [steG, if_pos hv]
      have n1 := hs.num1
      have d1 := hs.den1
      rw [hS, hv] at H1 H2
      rw [hT, hv] at H3 H4
      clear hS hT hv ho hs
      generalize stL l = st at *
      obtain ⟨sn, sd⟩ := st
      simp only [] at n1 d1 p3 p4
      generalize ratN (sn, sd) = q at *
      obtain ⟨a, b⟩ := q
      simp only [] at p1 p2 p3 p4 u1 u2
      have hQ : IntKind.i64.wrap ((a + b - 1).tdiv b) = (a + b - 1) / b := IntWalk.i64_quo _ _ ⟨by omega, by omega, p2⟩
      have hup : 0 ≤ (a + b - 1) / b := Int.ediv_nonneg (by omega) (by omega)
      have hup2 : (a + b - 1) / b ≤ 5000 := by have := Int.ediv_le_self b (show 0 ≤ a + b - 1 by omega); omega
      have w1_ : IntKind.i64.wrap (a + b) = a + b := by rw [IntWalk.i64_left]; exact IntWalk.wrap64_in _ ⟨by omega, by omega⟩
      have w2_ : IntKind.i64.wrap (a + b - 1) = a + b - 1 := by rw [IntWalk.i64_left]; exact IntWalk.wrap64_in _ ⟨by omega, by omega⟩
      have w3_ : wrap64 (a + b - 1) = a + b - 1 := IntWalk.wrap64_in _ ⟨by omega, by omega⟩
      have w4_ : wrap64 (a + b) = a + b := IntWalk.wrap64_in _ ⟨by omega, by omega⟩
      have hb0_ : (b == 0) = false := by rw [beq_eq_false_iff_ne]; omega
      have hb1_ : ¬ b < 1 := by omega
      have ha1_ : ¬ a < 0 := by omega
      have hb2_ : ¬ b = 0 := by omega
      generalize slowG l = sg at *
      obtain ⟨so, sb⟩ := sg
      simp only [] at u1 u2
      rcases sb with _ | _
      · have hu9 : ¬ (a + b - 1) / b ≤ 9 := by simpa using u1
        have hud : decide ((a + b - 1) / b ≤ 9) = false := decide_eq_false hu9
        clear u1 u2
        go_enter Try.func5, Try.ntmps5
        go_wp2_with (fail)
        refine (HL _).out.mono ?_
        rintro e w1 ⟨rfl, rfl⟩
        have hb0 := Below.refl w.heap.size w
        go_wp2_with (fail)
        refine (H1 _ (hr.later hb0)).out.mono ?_
        rintro e w1_ ⟨rfl, hbx1⟩
        have hb01 := bl_call hb0 hbx1
        go_wp2_with (fail)
        refine (H2 _ (hr.later hb01)).out.mono ?_
        rintro e w2_ ⟨rfl, hbx2⟩
        have hb02 := bl_call hb01 hbx2
        go_wp2_with (fail)
        refine (H3 _ (hr.later hb02)).out.mono ?_
        rintro e w3_ ⟨rfl, hbx3⟩
        have hb03 := bl_call hb02 hbx3
        have hbA := bl_alloc hb03 (.cells #[.int .i64 a, .int .i64 b] 39)
        have hxA : Bx (w3_.alloc (.cells #[.int .i64 a, .int .i64 b] 39)) w3_.heap.size 39 #[.int .i64 a, .int .i64 b] := Bx.new _ _ _
        go_wp2_with (fail)
        refine (H4 _ (hr.later hbA)).out.mono ?_
        rintro e w4_ ⟨rfl, hbx4⟩
        have hb04 := bl_call hbA hbx4
        have hxB := (hxA.call hbx4).alloc (.cells #[.int .i64 a, .int .i64 b] 39)
        have hbB := bl_alloc hb04 (.cells #[.int .i64 a, .int .i64 b] 39)
        have hxC : Bx (w4_.alloc (.cells #[.int .i64 a, .int .i64 b] 39)) w4_.heap.size 39 #[.int .i64 a, .int .i64 b] := Bx.new _ _ _
        obtain ⟨z0, z1, z2, z3⟩ := hxB.two
        obtain ⟨y0, y1, y2, y3⟩ := hxC.two
        go_wp2_with (fail)
        refine (HK _).out.mono ?_
        rintro e wk ⟨rfl, hbk⟩
        go_wp2_with (fail)
        go_ret
        exact ⟨rfl, bl_call hbB hbk⟩
      · have hu9 : (a + b - 1) / b ≤ 9 := by simpa using u1
        have hud : decide ((a + b - 1) / b ≤ 9) = true := decide_eq_true hu9
        have hso := u2 rfl
        clear u1 u2
        go_enter Try.func5, Try.ntmps5
        go_wp2_with (fail)
        refine (HL _).out.mono ?_
        rintro e w1 ⟨rfl, rfl⟩
        have hb0 := Below.refl w.heap.size w
        go_wp2_with (fail)
        refine (H1 _ (hr.later hb0)).out.mono ?_
        rintro e w1_ ⟨rfl, hbx1⟩
        have hb01 := bl_call hb0 hbx1
        go_wp2_with (fail)
        refine (H2 _ (hr.later hb01)).out.mono ?_
        rintro e w2_ ⟨rfl, hbx2⟩
        have hb02 := bl_call hb01 hbx2
        go_wp2_with (fail)
        refine (H3 _ (hr.later hb02)).out.mono ?_
        rintro e w3_ ⟨rfl, hbx3⟩
        have hb03 := bl_call hb02 hbx3
        have hbA := bl_alloc hb03 (.cells #[.int .i64 a, .int .i64 b] 39)
        have hxA : Bx (w3_.alloc (.cells #[.int .i64 a, .int .i64 b] 39)) w3_.heap.size 39 #[.int .i64 a, .int .i64 b] := Bx.new _ _ _
        go_wp2_with (fail)
        refine (H4 _ (hr.later hbA)).out.mono ?_
        rintro e w4_ ⟨rfl, hbx4⟩
        have hb04 := bl_call hbA hbx4
        have hxB := (hxA.call hbx4).alloc (.cells #[.int .i64 a, .int .i64 b] 39)
        have hbB := bl_alloc hb04 (.cells #[.int .i64 a, .int .i64 b] 39)
        have hxC : Bx (w4_.alloc (.cells #[.int .i64 a, .int .i64 b] 39)) w4_.heap.size 39 #[.int .i64 a, .int .i64 b] := Bx.new _ _ _
        obtain ⟨z0, z1, z2, z3⟩ := hxB.two
        obtain ⟨y0, y1, y2, y3⟩ := hxC.two
        go_wp2_with (fail)
        refine (HK _).out.mono ?_
        rintro e wk ⟨rfl, hbk⟩
        go_wp2_with (fail)
        go_ret
        exact ⟨rfl, bl_call hbB hbk⟩
    · have hv' : (validE l != 0) = true := by simpa using hv
      have hS : sloG l = (0, false) := by rw [sloG, if_neg hv]
      have hT : steG l = (0, 0) := by rw [steG, if_neg hv]
      rw [hS] at H1 H2
      rw [hT] at H3 H4
      clear hS hT hv
      generalize validE l = V at *
      go_enter Try.func5, Try.ntmps5
      go_wp2_with (fail)
      refine (HL _).out.mono ?_
      rintro e w1 ⟨rfl, rfl⟩
      have hb0 := Below.refl w.heap.size w
      go_wp2_with (fail)
      refine (H1 _ (hr.later hb0)).out.mono ?_
      rintro e w1_ ⟨rfl, hbx1⟩
      have hb01 := bl_call hb0 hbx1
      go_wp2_with (fail)
      refine (H2 _ (hr.later hb01)).out.mono ?_
      rintro e w2_ ⟨rfl, hbx2⟩
      have hb02 := bl_call hb01 hbx2
      go_wp2_with (fail)
      refine (H3 _ (hr.later hb02)).out.mono ?_
      rintro e w3_ ⟨rfl, hbx3⟩
      have hb03 := bl_call hb02 hbx3
      have hbA := bl_alloc hb03 (.cells #[.int .i64 0, .int .i64 0] 39)
      have hxA : Bx (w3_.alloc (.cells #[.int .i64 0, .int .i64 0] 39)) w3_.heap.size 39 #[.int .i64 0, .int .i64 0] := Bx.new _ _ _
      go_wp2_with (fail)
      refine (H4 _ (hr.later hbA)).out.mono ?_
      rintro e w4_ ⟨rfl, hbx4⟩
      have hb04 := bl_call hbA hbx4
      have hxB := (hxA.call hbx4).alloc (.cells #[.int .i64 0, .int .i64 0] 39)
      have hbB := bl_alloc hb04 (.cells #[.int .i64 0, .int .i64 0] 39)
      have hxC : Bx (w4_.alloc (.cells #[.int .i64 0, .int .i64 0] 39)) w4_.heap.size 39 #[.int .i64 0, .int .i64 0] := Bx.new _ _ _
      obtain ⟨z0, z1, z2, z3⟩ := hxB.two
      obtain ⟨y0, y1, y2, y3⟩ := hxC.two
      go_wp2_with (fail)
      refine (HK _).out.mono ?_
      rintro e wk ⟨rfl, hbk⟩
      go_wp2_with (fail)
      go_ret
      exact ⟨rfl, bl_call hbB hbk⟩
end Go.Proofs.Ytbbhaongakmhpaa
