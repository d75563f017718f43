/- DriftBounds, walked. -/
import Derived.Test.YtbbhaongakmhpaaKnownD
import Derived.Test.YtbbhaongakmhpaaRbd
namespace Go.Proofs.Ytbbhaongakmhpaa
open Go.RowKit

set_option maxRecDepth 100000 in
set_option maxHeartbeats 4000000 in
theorem driftBounds_walk (A : Option Addr) (l : List T3) (c : Nat) (r t : Int) (w : World) (_hcap : l.length ≤ c) (hr : Rd w A (cellsT l)) (_hi : (Lit.int .i64 r).wf = true) (_hj : (Lit.int .i64 t).wf = true) :
    Calls Try.prog 6 #[.slice A l.length c, .agg #[.int .i64 r, .int .i64 t]] w fun e w' => e = .returned (.bool true) ∧ Below w.heap.size w w' := by
  have HL := fun w => Lib.hid (long_c A l.length c w)
  have HK := fun w => Lib.hid (known_c w)
  by_cases hlong : 100 < l.length
  · rw [decide_eq_true hlong] at HL
    go_enter Try.func6, Try.ntmps6
    go_wp2_with (fail)
    refine (HL _).out.mono ?_
    rintro e w1 ⟨rfl, rfl⟩
    go_wp2_with (fail)
    refine (HK _).out.mono ?_
    rintro e w2 ⟨rfl, hb2⟩
    go_wp2_with (fail)
    go_ret
    exact ⟨rfl, bl_call (bl_alloc (Below.refl _ _) _) hb2⟩
  · rw [decide_eq_false hlong] at HL
    have hlen : l.length ≤ 1000 := by omega
    clear hlong
    have H1 := fun w h => Lib.hid (Bounds_c A l c r t w hlen h)
    have H2 := fun w h => Lib.hid (rBounds_c A l c r t w hlen h)
    have H3 := fun w h => Lib.hid (Width_c A l c r t w hlen h)
    have H4 := fun w h => Lib.hid (rWidth_c A l c r t w hlen h)
    generalize widG l r t = wg at *
    obtain ⟨wv, wb⟩ := wg
    by_cases hv : timE l r t = 0 ∧ agreeB l r = true
    · obtain ⟨⟨ho, h0, h9⟩, ht, ht2⟩ := timE_ok.1 hv.1
      have hlh := low_high ho h0 hv.2 t
      have hE : bndT l r t = .tuple #[.int .i64 (lowB l r t), .int .i64 (highB l r t), .bool true, .int .i64 0] := if_pos hv
      rw [hE] at H1 H2
      rw [hv.1] at H3 H4
      clear hE hv ho h0 h9 ht ht2
      generalize lowB l r t = L at *
      generalize highB l r t = H at *
      go_enter Try.func6, Try.ntmps6
      have hb0 := bl_alloc (Below.refl w.heap.size w) (.cells #[.int .i64 r, .int .i64 t] 43)
      have hx0 : Bx (w.alloc (.cells #[.int .i64 r, .int .i64 t] 43)) w.heap.size 43 #[.int .i64 r, .int .i64 t] := Bx.new _ _ _
      go_wp2_with (fail)
      refine (HL _).out.mono ?_
      rintro e w1 ⟨rfl, rfl⟩
      obtain ⟨z0, z1, z2, z3⟩ := hx0.two
      go_wp2_with (fail)
      refine (H1 _ (hr.later hb0)).out.mono ?_
      rintro e w1_ ⟨rfl, hbx1⟩
      have hb01 := bl_call hb0 hbx1
      have hx1 := hx0.call hbx1
      clear z0 z1 z2 z3
      obtain ⟨z0, z1, z2, z3⟩ := hx1.two
      go_wp2_with (fail)
      refine (H2 _ (hr.later hb01)).out.mono ?_
      rintro e w2_ ⟨rfl, hbx2⟩
      have hb02 := bl_call hb01 hbx2
      have hx2 := hx1.call hbx2
      clear z0 z1 z2 z3
      obtain ⟨z0, z1, z2, z3⟩ := hx2.two
      go_wp2_with (fail)
      refine (H3 _ (hr.later hb02)).out.mono ?_
      rintro e w3_ ⟨rfl, hbx3⟩
      have hb03 := bl_call hb02 hbx3
      have hx3 := hx2.call hbx3
      clear z0 z1 z2 z3
      obtain ⟨z0, z1, z2, z3⟩ := hx3.two
      go_wp2_with (fail)
      refine (H4 _ (hr.later hb03)).out.mono ?_
      rintro e w4_ ⟨rfl, hbx4⟩
      have hb04 := bl_call hb03 hbx4
      have hx4 := hx3.call hbx4
      clear z0 z1 z2 z3
      obtain ⟨z0, z1, z2, z3⟩ := hx4.two
      go_wp2_with (fail)
      refine (HK _).out.mono ?_
      rintro e wk ⟨rfl, hbk⟩
      go_wp2_with (fail)
      go_ret
      exact ⟨rfl, bl_call hb04 hbk⟩
    · have hE : bndT l r t = .tuple #[.int .i64 0, .int .i64 0, .bool false, .int .i64 (timE l r t)] := if_neg hv
      rw [hE] at H1 H2
      clear hE hv
      generalize timE l r t = E at *
      go_enter Try.func6, Try.ntmps6
      have hb0 := bl_alloc (Below.refl w.heap.size w) (.cells #[.int .i64 r, .int .i64 t] 43)
      have hx0 : Bx (w.alloc (.cells #[.int .i64 r, .int .i64 t] 43)) w.heap.size 43 #[.int .i64 r, .int .i64 t] := Bx.new _ _ _
      go_wp2_with (fail)
      refine (HL _).out.mono ?_
      rintro e w1 ⟨rfl, rfl⟩
      obtain ⟨z0, z1, z2, z3⟩ := hx0.two
      go_wp2_with (fail)
      refine (H1 _ (hr.later hb0)).out.mono ?_
      rintro e w1_ ⟨rfl, hbx1⟩
      have hb01 := bl_call hb0 hbx1
      have hx1 := hx0.call hbx1
      clear z0 z1 z2 z3
      obtain ⟨z0, z1, z2, z3⟩ := hx1.two
      go_wp2_with (fail)
      refine (H2 _ (hr.later hb01)).out.mono ?_
      rintro e w2_ ⟨rfl, hbx2⟩
      have hb02 := bl_call hb01 hbx2
      have hx2 := hx1.call hbx2
      clear z0 z1 z2 z3
      obtain ⟨z0, z1, z2, z3⟩ := hx2.two
      go_wp2_with (fail)
      refine (H3 _ (hr.later hb02)).out.mono ?_
      rintro e w3_ ⟨rfl, hbx3⟩
      have hb03 := bl_call hb02 hbx3
      have hx3 := hx2.call hbx3
      clear z0 z1 z2 z3
      obtain ⟨z0, z1, z2, z3⟩ := hx3.two
      go_wp2_with (fail)
      refine (H4 _ (hr.later hb03)).out.mono ?_
      rintro e w4_ ⟨rfl, hbx4⟩
      have hb04 := bl_call hb03 hbx4
      have hx4 := hx3.call hbx4
      clear z0 z1 z2 z3
      obtain ⟨z0, z1, z2, z3⟩ := hx4.two
      go_wp2_with (fail)
      refine (HK _).out.mono ?_
      rintro e wk ⟨rfl, hbk⟩
      go_wp2_with (fail)
      go_ret
      exact ⟨rfl, bl_call hb04 hbk⟩
end Go.Proofs.Ytbbhaongakmhpaa
