/- DriftNear, walked. -/
import Derived.Test.YtbbhaongakmhpaaKnownD
import Derived.Test.YtbbhaongakmhpaaWid
namespace Go.Proofs.Ytbbhaongakmhpaa
open Go.RowKit

set_option maxRecDepth 100000 in
set_option maxHeartbeats 4000000 in
theorem driftNear_walk (A : Option Addr) (l : List T3) (c : Nat) (r t : Int) (w : World) (_hcap : l.length ≤ c) (hr : Rd w A (cellsT l)) (_hi : (Lit.int .i64 r).wf = true) (_hj : (Lit.int .i64 t).wf = true) :
    Calls Try.prog 7 #[.slice A l.length c, .agg #[.int .i64 r, .int .i64 t]] w fun e w' => e = .returned (.bool true) ∧ Below w.heap.size w w' := by
  have HL := fun w => Lib.hid (long_c A l.length c w)
  have HK := fun w => Lib.hid (known_c w)
  by_cases hlong : 100 < l.length
  · rw [decide_eq_true hlong] at HL
    go_enter Try.func7, Try.ntmps7
    go_wp2_with (fail)
    refine (HL _).out.mono ?_
    rintro e w1 ⟨rfl, rfl⟩
    go_wp2_with (fail)
    refine (HK _).out.mono ?_
    rintro e w2 ⟨rfl, hb2⟩
    go_wp2_with (fail)
    go_ret
    exact ⟨rfl, bl_call (bl_alloc (Below.refl _ _) _) hb2⟩
  · rw [decide_eq_false hlong] at HL
    have hlen : l.length ≤ 1000 := by omega
    clear hlong
    have H1 := fun w h => Lib.hid (Bounds_c A l c r t w hlen h)
    have H2 := fun w h => Lib.hid (Bounds_c A l c r (t + 1) w hlen h)
    by_cases hv : timE l r t = 0 ∧ agreeB l r = true
    · obtain ⟨⟨ho, h0, h9⟩, ht, ht2⟩ := timE_ok.1 hv.1
      have hE : bndT l r t = .tuple #[.int .i64 (lowB l r t), .int .i64 (highB l r t), .bool true, .int .i64 0] := if_pos hv
      rw [hE] at H1
      clear hE
      by_cases h2000 : 2000 ≤ t
      · clear H2 hv ho h0 h9 ht ht2
        generalize lowB l r t = L at *
        generalize highB l r t = H at *
        go_enter Try.func7, Try.ntmps7
        have hb0 := bl_alloc (Below.refl w.heap.size w) (.cells #[.int .i64 r, .int .i64 t] 43)
        have hx0 : Bx (w.alloc (.cells #[.int .i64 r, .int .i64 t] 43)) w.heap.size 43 #[.int .i64 r, .int .i64 t] := Bx.new _ _ _
        go_wp2_with (fail)
        refine (HL _).out.mono ?_
        rintro e w1 ⟨rfl, rfl⟩
        obtain ⟨z0, z1, z2, z3⟩ := hx0.two
        go_wp2_with (fail)
        refine (H1 _ (hr.later hb0)).out.mono ?_
        rintro e w1_ ⟨rfl, hbx1⟩
        have hb01 := bl_call hb0 hbx1
        have hx1 := hx0.call hbx1
        clear z0 z1 z2 z3
        obtain ⟨z0, z1, z2, z3⟩ := hx1.two
        go_wp2_with (fail)
        refine (HK _).out.mono ?_
        rintro e wk ⟨rfl, hbk⟩
        go_wp2_with (fail)
        go_ret
        exact ⟨rfl, bl_call hb01 hbk⟩
      · have hv2 : timE l r (t + 1) = 0 ∧ agreeB l r = true := ⟨timE_ok.2 ⟨⟨ho, h0, h9⟩, by omega, by omega⟩, hv.2⟩
        have hE : bndT l r (t + 1) = .tuple #[.int .i64 (lowB l r (t + 1)), .int .i64 (highB l r (t + 1)), .bool true, .int .i64 0] := if_pos hv2
        rw [hE] at H2
        have a1 := lowB_way ho h0 t (t + 1)
        have a2 := lowB_way ho h0 (t + 1) t
        have a3 := highB_way ho h0 t (t + 1)
        have a4 := highB_way ho h0 (t + 1) t
        have f1 : farI (t + 1) t = 1 := by unfold farI; omega
        have f2 : farI t (t + 1) = 1 := by unfold farI; omega
        rw [f1, Int.mul_one] at a1 a3
        rw [f2, Int.mul_one] at a2 a4
        obtain ⟨b1, b2, b3, b4⟩ := bounds_small ho h0 h9 ht ht2
        obtain ⟨d1, d2, d3, d4⟩ := bounds_small (t := t + 1) ho h0 h9 (by omega) (by omega)
        have e4 : IntKind.i64.wrap (t + 1) = t + 1 := by rw [IntWalk.i64_left]; exact IntWalk.wrap64_in _ ⟨by omega, by omega⟩
        have e5 : wrap64 (t + 1) = t + 1 := IntWalk.wrap64_in _ ⟨by omega, by omega⟩
        clear hE hv hv2 ho h9 ht ht2 f1 f2
        generalize lowB l r t = L at *
        generalize highB l r t = H at *
        generalize lowB l r (t + 1) = L2 at *
        generalize highB l r (t + 1) = H2_ at *
        have s1 : IntKind.i64.wrap (L - L2) = L - L2 := by rw [IntWalk.i64_left]; exact IntWalk.wrap64_in _ ⟨by omega, by omega⟩
        have s2 : IntKind.i64.wrap (L2 - L) = L2 - L := by rw [IntWalk.i64_left]; exact IntWalk.wrap64_in _ ⟨by omega, by omega⟩
        have s3 : IntKind.i64.wrap (H - H2_) = H - H2_ := by rw [IntWalk.i64_left]; exact IntWalk.wrap64_in _ ⟨by omega, by omega⟩
        have s4 : IntKind.i64.wrap (H2_ - H) = H2_ - H := by rw [IntWalk.i64_left]; exact IntWalk.wrap64_in _ ⟨by omega, by omega⟩
        have g1 : L - L2 ≤ r := by omega
        have g2 : L2 - L ≤ r := by omega
        have g3 : H - H2_ ≤ r := by omega
        have g4 : H2_ - H ≤ r := by omega
        clear a1 a2 a3 a4 b1 b2 b3 b4 d1 d2 d3 d4
        go_enter Try.func7, Try.ntmps7
        have hb0 := bl_alloc (Below.refl w.heap.size w) (.cells #[.int .i64 r, .int .i64 t] 43)
        have hx0 : Bx (w.alloc (.cells #[.int .i64 r, .int .i64 t] 43)) w.heap.size 43 #[.int .i64 r, .int .i64 t] := Bx.new _ _ _
        go_wp2_with (fail)
        refine (HL _).out.mono ?_
        rintro e w1 ⟨rfl, rfl⟩
        obtain ⟨z0, z1, z2, z3⟩ := hx0.two
        go_wp2_with (fail)
        refine (H1 _ (hr.later hb0)).out.mono ?_
        rintro e w1_ ⟨rfl, hbx1⟩
        have hb01 := bl_call hb0 hbx1
        have hx1 := hx0.call hbx1
        clear z0 z1 z2 z3
        obtain ⟨z0, z1, z2, z3⟩ := hx1.two
        go_wp2_with (fail)
        refine (H2 _ (hr.later hb01)).out.mono ?_
        rintro e w2_ ⟨rfl, hbx2⟩
        have hb02 := bl_call hb01 hbx2
        have hx2 := hx1.call hbx2
        clear z0 z1 z2 z3
        obtain ⟨z0, z1, z2, z3⟩ := hx2.two
        go_wp2_with (fail)
        refine (HK _).out.mono ?_
        rintro e wk ⟨rfl, hbk⟩
        go_wp2_with (fail)
        go_ret
        exact ⟨rfl, bl_call hb02 hbk⟩
    · have hE : bndT l r t = .tuple #[.int .i64 0, .int .i64 0, .bool false, .int .i64 (timE l r t)] := if_neg hv
      rw [hE] at H1
      clear hE hv H2
      generalize timE l r t = E at *
      by_cases hE0 : (E != 0) = true
      · have htriv := True.intro
        go_enter Try.func7, Try.ntmps7
        have hb0 := bl_alloc (Below.refl w.heap.size w) (.cells #[.int .i64 r, .int .i64 t] 43)
        have hx0 : Bx (w.alloc (.cells #[.int .i64 r, .int .i64 t] 43)) w.heap.size 43 #[.int .i64 r, .int .i64 t] := Bx.new _ _ _
        go_wp2_with (fail)
        refine (HL _).out.mono ?_
        rintro e w1 ⟨rfl, rfl⟩
        obtain ⟨z0, z1, z2, z3⟩ := hx0.two
        go_wp2_with (fail)
        refine (H1 _ (hr.later hb0)).out.mono ?_
        rintro e w1_ ⟨rfl, hbx1⟩
        have hb01 := bl_call hb0 hbx1
        have hx1 := hx0.call hbx1
        clear z0 z1 z2 z3
        obtain ⟨z0, z1, z2, z3⟩ := hx1.two
        go_wp2_with (fail)
        refine (HK _).out.mono ?_
        rintro e wk ⟨rfl, hbk⟩
        go_wp2_with (fail)
        go_ret
        exact ⟨rfl, bl_call hb01 hbk⟩
      · have hE1 : (E != 0) = false := by simpa using hE0
        go_enter Try.func7, Try.ntmps7
        have hb0 := bl_alloc (Below.refl w.heap.size w) (.cells #[.int .i64 r, .int .i64 t] 43)
        have hx0 : Bx (w.alloc (.cells #[.int .i64 r, .int .i64 t] 43)) w.heap.size 43 #[.int .i64 r, .int .i64 t] := Bx.new _ _ _
        go_wp2_with (fail)
        refine (HL _).out.mono ?_
        rintro e w1 ⟨rfl, rfl⟩
        obtain ⟨z0, z1, z2, z3⟩ := hx0.two
        go_wp2_with (fail)
        refine (H1 _ (hr.later hb0)).out.mono ?_
        rintro e w1_ ⟨rfl, hbx1⟩
        have hb01 := bl_call hb0 hbx1
        have hx1 := hx0.call hbx1
        clear z0 z1 z2 z3
        obtain ⟨z0, z1, z2, z3⟩ := hx1.two
        go_wp2_with (fail)
        refine (HK _).out.mono ?_
        rintro e wk ⟨rfl, hbk⟩
        go_wp2_with (fail)
        go_ret
        exact ⟨rfl, bl_call hb01 hbk⟩
end Go.Proofs.Ytbbhaongakmhpaa
