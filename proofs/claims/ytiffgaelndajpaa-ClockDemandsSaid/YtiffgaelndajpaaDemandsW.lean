/- ClockDemands, walked. -/
import Derived.Test.YtiffgaelndajpaaKnownK
import Derived.Test.YtiffgaelndajpaaRcrw
namespace Go.Proofs.Ytiffgaelndajpaa
open Go.RowKit

theorem crw_cant {l : List T3} {a b : Int} (h : crwE l a b = 0) : validE l = 0 ∧ canG l = false := by
  rcases crwE_cases l a b with ⟨h1, h2⟩ | ⟨h1, h2, _⟩ | ⟨h1, h2, h3⟩
  · rw [h] at h2; exact absurd h2.symm h1
  · obtain ⟨hv, h3, h4, h5⟩ := strE_zero.1 h1
    refine ⟨hv, ?_⟩
    rw [canG, if_pos hv, canB, decide_eq_false]
    intro hc
    have := crowdF_iff.1 ((can_crowd (validE_ok.1 hv)).1 hc) a b h3 h4 h5
    omega
  · rw [h] at h3; cases h3
set_option maxRecDepth 100000 in
set_option maxHeartbeats 4000000 in
theorem clockDemands_walk (A : Option Addr) (l : List T3) (c : Nat) (x y : Int) (w : World) (_hcap : l.length ≤ c) (hr : Rd w A (cellsT l)) (_hx : (Lit.int .i64 x).wf = true) (_hy : (Lit.int .i64 y).wf = true) :
    Calls Try.prog 8 #[.slice A l.length c, .agg #[.int .i64 x, .int .i64 y]] w fun e w' => e = .returned (.bool true) ∧ Below w.heap.size w w' := by
  have hb0 := bl_alloc (Below.refl w.heap.size w) (.cells #[.int .i64 x, .int .i64 y] 42)
  have hx0 : Bx (w.alloc (.cells #[.int .i64 x, .int .i64 y] 42)) w.heap.size 42 #[.int .i64 x, .int .i64 y] := Bx.new _ _ _
  have HL := fun w => Lib.hid (long_c A l.length c w)
  have HK := fun w => Lib.hid (known_c w)
  by_cases hlong : 40 < l.length
  · rw [decide_eq_true hlong] at HL
    go_enter Try.func8, Try.ntmps8
    go_wp2_with (fail)
    refine (HL _).out.mono ?_
    rintro e w1 ⟨rfl, rfl⟩
    go_wp2_with (fail)
    refine (HK _).out.mono ?_
    rintro e w2 ⟨rfl, hb2⟩
    go_wp2_with (fail)
    go_ret
    exact ⟨rfl, bl_call hb0 hb2⟩
  · rw [decide_eq_false hlong] at HL
    have hlen : l.length ≤ 1000 := by omega
    clear hlong
    have H1 := fun w h => Lib.hid (Demand_c A l c x y w hlen h)
    have H2 := fun w h => Lib.hid (rDemand_c A l c x y w hlen h)
    have H3 := fun w h => Lib.hid (CheckCrowded_c A l c x y w hlen h)
    have H4 := fun w h => Lib.hid (rCheckCrowded_c A l c x y w hlen h)
    have H5 := fun w h => Lib.hid (CanKeep_c A l c w hlen h)
    have HX := Lib.hid (@crw_cant l x y)
    generalize strE l x y = s at *
    generalize demG l x y = D at *
    by_cases hz : crwE l x y = 0
    · obtain ⟨hv, hcan⟩ := HX.out hz
      rw [hz] at H3 H4
      rw [hv, hcan] at H5
      clear HX hz hv hcan
      go_enter Try.func8, Try.ntmps8
      go_wp2_with (fail)
      refine (HL _).out.mono ?_
      rintro e w1 ⟨rfl, rfl⟩
      go_wp2_with (fail)
      obtain ⟨z1, z2, z3, z4⟩ := hx0.two
      go_wp2_with (fail)
      refine (H1 _ (hr.later hb0)).out.mono ?_
      rintro e w1 ⟨rfl, hb1⟩
      have hb01 := bl_call hb0 hb1
      have hx1 := hx0.call hb1
      obtain ⟨z1, z2, z3, z4⟩ := hx1.two
      go_wp2_with (fail)
      refine (H2 _ (hr.later hb01)).out.mono ?_
      rintro e w2 ⟨rfl, hb2⟩
      have hb12 := bl_call hb01 hb2
      have hx2 := hx1.call hb2
      obtain ⟨z1, z2, z3, z4⟩ := hx2.two
      go_wp2_with (fail)
      refine (H3 _ (hr.later hb12)).out.mono ?_
      rintro e w3 ⟨rfl, hb3⟩
      have hb13 := bl_call hb12 hb3
      have hx3 := hx2.call hb3
      obtain ⟨z1, z2, z3, z4⟩ := hx3.two
      go_wp2_with (fail)
      refine (H4 _ (hr.later hb13)).out.mono ?_
      rintro e w4 ⟨rfl, hb4⟩
      have hb14 := bl_call hb13 hb4
      go_wp2_with (fail)
      refine (H5 _ (hr.later hb14)).out.mono ?_
      rintro e w5 ⟨rfl, hb5⟩
      have hb15 := bl_call hb14 hb5
      go_wp2_with (fail)
      refine (HK _).out.mono ?_
      rintro e wk ⟨rfl, hbk⟩
      go_wp2_with (fail)
      go_ret
      exact ⟨rfl, bl_call hb15 hbk⟩
    · have hz' : (crwE l x y != 0) = true := by rw [bne_iff_ne]; exact hz
      clear HX hz
      generalize crwE l x y = C at *
      generalize canG l = b at *
      generalize validE l = v at *
      go_enter Try.func8, Try.ntmps8
      go_wp2_with (fail)
      refine (HL _).out.mono ?_
      rintro e w1 ⟨rfl, rfl⟩
      go_wp2_with (fail)
      obtain ⟨z1, z2, z3, z4⟩ := hx0.two
      go_wp2_with (fail)
      refine (H1 _ (hr.later hb0)).out.mono ?_
      rintro e w1 ⟨rfl, hb1⟩
      have hb01 := bl_call hb0 hb1
      have hx1 := hx0.call hb1
      obtain ⟨z1, z2, z3, z4⟩ := hx1.two
      go_wp2_with (fail)
      refine (H2 _ (hr.later hb01)).out.mono ?_
      rintro e w2 ⟨rfl, hb2⟩
      have hb12 := bl_call hb01 hb2
      have hx2 := hx1.call hb2
      obtain ⟨z1, z2, z3, z4⟩ := hx2.two
      go_wp2_with (fail)
      refine (H3 _ (hr.later hb12)).out.mono ?_
      rintro e w3 ⟨rfl, hb3⟩
      have hb13 := bl_call hb12 hb3
      have hx3 := hx2.call hb3
      obtain ⟨z1, z2, z3, z4⟩ := hx3.two
      go_wp2_with (fail)
      refine (H4 _ (hr.later hb13)).out.mono ?_
      rintro e w4 ⟨rfl, hb4⟩
      have hb14 := bl_call hb13 hb4
      go_wp2_with (fail)
      refine (H5 _ (hr.later hb14)).out.mono ?_
      rintro e w5 ⟨rfl, hb5⟩
      have hb15 := bl_call hb14 hb5
      go_wp2_with (fail)
      refine (HK _).out.mono ?_
      rintro e wk ⟨rfl, hbk⟩
      go_wp2_with (fail)
      go_ret
      exact ⟨rfl, bl_call hb15 hbk⟩
end Go.Proofs.Ytiffgaelndajpaa
