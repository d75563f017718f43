/- DriftWithout, walked. -/
import Derived.Test.YtbbhaongakmhpaaKnownD
import Derived.Test.YtbbhaongakmhpaaRwit
namespace Go.Proofs.Ytbbhaongakmhpaa
open Go.RowKit

theorem bnd_form (l : List T3) (r t : Int) : ∃ (L H E : Int) (b : Bool), bndT l r t = .tuple #[.int .i64 L, .int .i64 H, .bool b, .int .i64 E] := by
  unfold bndT
  split
  · exact ⟨_, _, _, _, rfl⟩
  · exact ⟨_, _, _, _, rfl⟩
set_option maxRecDepth 100000 in
set_option maxHeartbeats 4000000 in
theorem driftWithout_walk (A : Option Addr) (l : List T3) (c : Nat) (k r t : Int) (w : World) (hcap : l.length ≤ c) (hr : Rd w A (cellsT l)) (_hk : (Lit.int .i64 k).wf = true) (_hi : (Lit.int .i64 r).wf = true) (_hj : (Lit.int .i64 t).wf = true) :
    Calls Try.prog 15 #[.slice A l.length c, .int .i64 k, .agg #[.int .i64 r, .int .i64 t]] w fun e w' => e = .returned (.bool true) ∧ Below w.heap.size w w' := by
  have HL := fun w => Lib.hid (long_c A l.length c w)
  have HK := fun w => Lib.hid (known_c w)
  by_cases hlong : 100 < l.length
  · rw [decide_eq_true hlong] at HL
    go_enter Try.func15, Try.ntmps15
    go_wp2_with (fail)
    refine (HL _).out.mono ?_
    rintro e w1 ⟨rfl, rfl⟩
    go_wp2_with (fail)
    refine (HK _).out.mono ?_
    rintro e w2 ⟨rfl, hb2⟩
    go_wp2_with (fail)
    go_ret
    exact ⟨rfl, bl_call (bl_alloc (Below.refl _ _) _) hb2⟩
  · rw [decide_eq_false hlong] at HL
    have hlen : l.length ≤ 1000 := by omega
    clear hlong
    have H1 := fun w h => Lib.hid (Without_c A l c k w hlen h)
    have H2 := fun w h => Lib.hid (rWithout_c A l c k w hlen hcap h)
    have hW : (witL l k).length ≤ 1000 := by
      unfold witL
      split
      · simp [dropK]; omega
      · exact Nat.zero_le _
    have H3 := fun A B c d w h h' => Lib.hid (same_c A B (witL l k) (witL l k) c d w (by omega) h h')
    have H4 := fun w h => Lib.hid (Bounds_c A l c r t w hlen h)
    have H5 := fun B d w h => Lib.hid (Bounds_c B (witL l k) d r t w hW h)
    rw [decide_eq_true rfl] at H3
    by_cases he : witE l k = 0 ∧ timE l r t = 0 ∧ agreeB l r = true
    · obtain ⟨he1, he2, he3⟩ := he
      obtain ⟨⟨ho, h0, h9⟩, ht, ht2⟩ := timE_ok.1 he2
      rcases wit_cases l k with ⟨hv, hE, hL⟩ | ⟨hv, h1, hE, hL⟩ | ⟨hv, h1, h2, hE, hL⟩ | ⟨hv, i, rfl, hil, h2, hE, hL⟩
      · rw [hE] at he1; exact absurd he1 hv
      · rw [hE] at he1; cases he1
      · rw [hE] at he1; cases he1
      · have hB : bndT l r t = .tuple #[.int .i64 (lowB l r t), .int .i64 (highB l r t), .bool true, .int .i64 0] := if_pos ⟨he2, he3⟩
        have hT2 : timE (dropK l i) r t = 0 := timE_ok.2 ⟨⟨drop_ok ho hil h2, h0, h9⟩, ht, ht2⟩
        have hB2 : bndT (witL l i) r t = .tuple #[.int .i64 (lowB (dropK l i) r t), .int .i64 (highB (dropK l i) r t), .bool true, .int .i64 0] := by rw [hL]; exact if_pos ⟨hT2, drop_agree ho hil h2 h0 he3⟩
        have g1 := drop_low (r := r) ho hil h2 t
        have g2 := drop_high (r := r) ho hil h2 t
        rw [hB] at H4
        rw [hB2] at H5
        rw [he1] at H1 H2
        clear hB hB2 hT2 he1 he2 he3 ho h0 h9 ht ht2 hv hE hL hil h2
        generalize lowB l r t = L at *
        generalize highB l r t = H at *
        generalize lowB (dropK l i) r t = L2 at *
        generalize highB (dropK l i) r t = H2' at *
        generalize witL l (i : Int) = M at *
        go_enter Try.func15, Try.ntmps15
        have hb0 := bl_alloc (Below.refl w.heap.size w) (.cells #[.int .i64 r, .int .i64 t] 43)
        have hx0 : Bx (w.alloc (.cells #[.int .i64 r, .int .i64 t] 43)) w.heap.size 43 #[.int .i64 r, .int .i64 t] := Bx.new _ _ _
        go_wp2_with (fail)
        refine (HL _).out.mono ?_
        rintro e w1 ⟨rfl, rfl⟩
        obtain ⟨z0, z1, z2, z3⟩ := hx0.two
        go_wp2_with (fail)
        refine (H1 _ (hr.later hb0)).out.mono ?_
        rintro e w1_ ⟨A1, c1, rfl, ho1, hbx1⟩
        have hb01 := bl_call hb0 hbx1
        have hx1 := hx0.call hbx1
        clear z0 z1 z2 z3
        obtain ⟨z0, z1, z2, z3⟩ := hx1.two
        go_wp2_with (fail)
        refine (H2 _ (hr.later hb01)).out.mono ?_
        rintro e w2_ ⟨A2, c2, rfl, ho2, hbx2⟩
        have hb02 := bl_call hb01 hbx2
        have hx2 := hx1.call hbx2
        clear z0 z1 z2 z3
        obtain ⟨z0, z1, z2, z3⟩ := hx2.two
        have hr1 := (own_rd ho1).1.later hbx2
        have hr2 := (own_rd ho2).1
        go_wp2_with (fail)
        refine (H3 _ _ _ _ _ hr1 hr2).out.mono ?_
        rintro e w3_ ⟨rfl, hbx3⟩
        have hb03 := bl_call hb02 hbx3
        have hx3 := hx2.call hbx3
        clear z0 z1 z2 z3
        obtain ⟨z0, z1, z2, z3⟩ := hx3.two
        have hr3 := hr1.later hbx3
        go_wp2_with (fail)
        refine (H4 _ (hr.later hb03)).out.mono ?_
        rintro e w4_ ⟨rfl, hbx4⟩
        have hb04 := bl_call hb03 hbx4
        have hx4 := hx3.call hbx4
        clear z0 z1 z2 z3
        obtain ⟨z0, z1, z2, z3⟩ := hx4.two
        have hr4 := hr3.later hbx4
        go_wp2_with (fail)
        refine (H5 _ _ _ hr4).out.mono ?_
        rintro e w5_ ⟨rfl, hbx5⟩
        have hb05 := bl_call hb04 hbx5
        have hx5 := hx4.call hbx5
        clear z0 z1 z2 z3
        obtain ⟨z0, z1, z2, z3⟩ := hx5.two
        go_wp2_with (fail)
        refine (HK _).out.mono ?_
        rintro e wk ⟨rfl, hbk⟩
        go_wp2_with (fail)
        go_ret
        exact ⟨rfl, bl_call hb05 hbk⟩
    · obtain ⟨L2, H2', E2, b2, hB2⟩ := bnd_form (witL l k) r t
      rw [hB2] at H5
      clear hB2
      by_cases hb : timE l r t = 0 ∧ agreeB l r = true
      · have hB : bndT l r t = .tuple #[.int .i64 (lowB l r t), .int .i64 (highB l r t), .bool true, .int .i64 0] := if_pos hb
        have he1 : ¬ witE l k = 0 := fun h => he ⟨h, hb⟩
        have he' : (witE l k != 0) = true := by simpa using he1
        rw [hB] at H4
        clear hB hb he he1
        generalize witE l k = E at *
        generalize lowB l r t = L at *
        generalize highB l r t = H at *
        generalize witL l k = M at *
        go_enter Try.func15, Try.ntmps15
        have hb0 := bl_alloc (Below.refl w.heap.size w) (.cells #[.int .i64 r, .int .i64 t] 43)
        have hx0 : Bx (w.alloc (.cells #[.int .i64 r, .int .i64 t] 43)) w.heap.size 43 #[.int .i64 r, .int .i64 t] := Bx.new _ _ _
        go_wp2_with (fail)
        refine (HL _).out.mono ?_
        rintro e w1 ⟨rfl, rfl⟩
        obtain ⟨z0, z1, z2, z3⟩ := hx0.two
        go_wp2_with (fail)
        refine (H1 _ (hr.later hb0)).out.mono ?_
        rintro e w1_ ⟨A1, c1, rfl, ho1, hbx1⟩
        have hb01 := bl_call hb0 hbx1
        have hx1 := hx0.call hbx1
        clear z0 z1 z2 z3
        obtain ⟨z0, z1, z2, z3⟩ := hx1.two
        go_wp2_with (fail)
        refine (H2 _ (hr.later hb01)).out.mono ?_
        rintro e w2_ ⟨A2, c2, rfl, ho2, hbx2⟩
        have hb02 := bl_call hb01 hbx2
        have hx2 := hx1.call hbx2
        clear z0 z1 z2 z3
        obtain ⟨z0, z1, z2, z3⟩ := hx2.two
        have hr1 := (own_rd ho1).1.later hbx2
        have hr2 := (own_rd ho2).1
        go_wp2_with (fail)
        refine (H3 _ _ _ _ _ hr1 hr2).out.mono ?_
        rintro e w3_ ⟨rfl, hbx3⟩
        have hb03 := bl_call hb02 hbx3
        have hx3 := hx2.call hbx3
        clear z0 z1 z2 z3
        obtain ⟨z0, z1, z2, z3⟩ := hx3.two
        have hr3 := hr1.later hbx3
        go_wp2_with (fail)
        refine (H4 _ (hr.later hb03)).out.mono ?_
        rintro e w4_ ⟨rfl, hbx4⟩
        have hb04 := bl_call hb03 hbx4
        have hx4 := hx3.call hbx4
        clear z0 z1 z2 z3
        obtain ⟨z0, z1, z2, z3⟩ := hx4.two
        have hr4 := hr3.later hbx4
        go_wp2_with (fail)
        refine (H5 _ _ _ hr4).out.mono ?_
        rintro e w5_ ⟨rfl, hbx5⟩
        have hb05 := bl_call hb04 hbx5
        have hx5 := hx4.call hbx5
        clear z0 z1 z2 z3
        obtain ⟨z0, z1, z2, z3⟩ := hx5.two
        go_wp2_with (fail)
        refine (HK _).out.mono ?_
        rintro e wk ⟨rfl, hbk⟩
        go_wp2_with (fail)
        go_ret
        exact ⟨rfl, bl_call hb05 hbk⟩
      · have hB : bndT l r t = .tuple #[.int .i64 0, .int .i64 0, .bool false, .int .i64 (timE l r t)] := if_neg hb
        rw [hB] at H4
        clear hB hb he
        generalize witE l k = E at *
        generalize timE l r t = E3 at *
        generalize witL l k = M at *
        by_cases he1 : (E != 0) = true
        · have htriv := True.intro
          go_enter Try.func15, Try.ntmps15
          have hb0 := bl_alloc (Below.refl w.heap.size w) (.cells #[.int .i64 r, .int .i64 t] 43)
          have hx0 : Bx (w.alloc (.cells #[.int .i64 r, .int .i64 t] 43)) w.heap.size 43 #[.int .i64 r, .int .i64 t] := Bx.new _ _ _
          go_wp2_with (fail)
          refine (HL _).out.mono ?_
          rintro e w1 ⟨rfl, rfl⟩
          obtain ⟨z0, z1, z2, z3⟩ := hx0.two
          go_wp2_with (fail)
          refine (H1 _ (hr.later hb0)).out.mono ?_
          rintro e w1_ ⟨A1, c1, rfl, ho1, hbx1⟩
          have hb01 := bl_call hb0 hbx1
          have hx1 := hx0.call hbx1
          clear z0 z1 z2 z3
          obtain ⟨z0, z1, z2, z3⟩ := hx1.two
          go_wp2_with (fail)
          refine (H2 _ (hr.later hb01)).out.mono ?_
          rintro e w2_ ⟨A2, c2, rfl, ho2, hbx2⟩
          have hb02 := bl_call hb01 hbx2
          have hx2 := hx1.call hbx2
          clear z0 z1 z2 z3
          obtain ⟨z0, z1, z2, z3⟩ := hx2.two
          have hr1 := (own_rd ho1).1.later hbx2
          have hr2 := (own_rd ho2).1
          go_wp2_with (fail)
          refine (H3 _ _ _ _ _ hr1 hr2).out.mono ?_
          rintro e w3_ ⟨rfl, hbx3⟩
          have hb03 := bl_call hb02 hbx3
          have hx3 := hx2.call hbx3
          clear z0 z1 z2 z3
          obtain ⟨z0, z1, z2, z3⟩ := hx3.two
          have hr3 := hr1.later hbx3
          go_wp2_with (fail)
          refine (H4 _ (hr.later hb03)).out.mono ?_
          rintro e w4_ ⟨rfl, hbx4⟩
          have hb04 := bl_call hb03 hbx4
          have hx4 := hx3.call hbx4
          clear z0 z1 z2 z3
          obtain ⟨z0, z1, z2, z3⟩ := hx4.two
          have hr4 := hr3.later hbx4
          go_wp2_with (fail)
          refine (H5 _ _ _ hr4).out.mono ?_
          rintro e w5_ ⟨rfl, hbx5⟩
          have hb05 := bl_call hb04 hbx5
          have hx5 := hx4.call hbx5
          clear z0 z1 z2 z3
          obtain ⟨z0, z1, z2, z3⟩ := hx5.two
          go_wp2_with (fail)
          refine (HK _).out.mono ?_
          rintro e wk ⟨rfl, hbk⟩
          go_wp2_with (fail)
          go_ret
          exact ⟨rfl, bl_call hb05 hbk⟩
        · have he2 : (E != 0) = false := by simpa using he1
          by_cases he3 : (E3 != 0) = true
          · have htriv := True.intro
            go_enter Try.func15, Try.ntmps15
            have hb0 := bl_alloc (Below.refl w.heap.size w) (.cells #[.int .i64 r, .int .i64 t] 43)
            have hx0 : Bx (w.alloc (.cells #[.int .i64 r, .int .i64 t] 43)) w.heap.size 43 #[.int .i64 r, .int .i64 t] := Bx.new _ _ _
            go_wp2_with (fail)
            refine (HL _).out.mono ?_
            rintro e w1 ⟨rfl, rfl⟩
            obtain ⟨z0, z1, z2, z3⟩ := hx0.two
            go_wp2_with (fail)
            refine (H1 _ (hr.later hb0)).out.mono ?_
            rintro e w1_ ⟨A1, c1, rfl, ho1, hbx1⟩
            have hb01 := bl_call hb0 hbx1
            have hx1 := hx0.call hbx1
            clear z0 z1 z2 z3
            obtain ⟨z0, z1, z2, z3⟩ := hx1.two
            go_wp2_with (fail)
            refine (H2 _ (hr.later hb01)).out.mono ?_
            rintro e w2_ ⟨A2, c2, rfl, ho2, hbx2⟩
            have hb02 := bl_call hb01 hbx2
            have hx2 := hx1.call hbx2
            clear z0 z1 z2 z3
            obtain ⟨z0, z1, z2, z3⟩ := hx2.two
            have hr1 := (own_rd ho1).1.later hbx2
            have hr2 := (own_rd ho2).1
            go_wp2_with (fail)
            refine (H3 _ _ _ _ _ hr1 hr2).out.mono ?_
            rintro e w3_ ⟨rfl, hbx3⟩
            have hb03 := bl_call hb02 hbx3
            have hx3 := hx2.call hbx3
            clear z0 z1 z2 z3
            obtain ⟨z0, z1, z2, z3⟩ := hx3.two
            have hr3 := hr1.later hbx3
            go_wp2_with (fail)
            refine (H4 _ (hr.later hb03)).out.mono ?_
            rintro e w4_ ⟨rfl, hbx4⟩
            have hb04 := bl_call hb03 hbx4
            have hx4 := hx3.call hbx4
            clear z0 z1 z2 z3
            obtain ⟨z0, z1, z2, z3⟩ := hx4.two
            have hr4 := hr3.later hbx4
            go_wp2_with (fail)
            refine (H5 _ _ _ hr4).out.mono ?_
            rintro e w5_ ⟨rfl, hbx5⟩
            have hb05 := bl_call hb04 hbx5
            have hx5 := hx4.call hbx5
            clear z0 z1 z2 z3
            obtain ⟨z0, z1, z2, z3⟩ := hx5.two
            go_wp2_with (fail)
            refine (HK _).out.mono ?_
            rintro e wk ⟨rfl, hbk⟩
            go_wp2_with (fail)
            go_ret
            exact ⟨rfl, bl_call hb05 hbk⟩
          · have he4 : (E3 != 0) = false := by simpa using he3
            go_enter Try.func15, Try.ntmps15
            have hb0 := bl_alloc (Below.refl w.heap.size w) (.cells #[.int .i64 r, .int .i64 t] 43)
            have hx0 : Bx (w.alloc (.cells #[.int .i64 r, .int .i64 t] 43)) w.heap.size 43 #[.int .i64 r, .int .i64 t] := Bx.new _ _ _
            go_wp2_with (fail)
            refine (HL _).out.mono ?_
            rintro e w1 ⟨rfl, rfl⟩
            obtain ⟨z0, z1, z2, z3⟩ := hx0.two
            go_wp2_with (fail)
            refine (H1 _ (hr.later hb0)).out.mono ?_
            rintro e w1_ ⟨A1, c1, rfl, ho1, hbx1⟩
            have hb01 := bl_call hb0 hbx1
            have hx1 := hx0.call hbx1
            clear z0 z1 z2 z3
            obtain ⟨z0, z1, z2, z3⟩ := hx1.two
            go_wp2_with (fail)
            refine (H2 _ (hr.later hb01)).out.mono ?_
            rintro e w2_ ⟨A2, c2, rfl, ho2, hbx2⟩
            have hb02 := bl_call hb01 hbx2
            have hx2 := hx1.call hbx2
            clear z0 z1 z2 z3
            obtain ⟨z0, z1, z2, z3⟩ := hx2.two
            have hr1 := (own_rd ho1).1.later hbx2
            have hr2 := (own_rd ho2).1
            go_wp2_with (fail)
            refine (H3 _ _ _ _ _ hr1 hr2).out.mono ?_
            rintro e w3_ ⟨rfl, hbx3⟩
            have hb03 := bl_call hb02 hbx3
            have hx3 := hx2.call hbx3
            clear z0 z1 z2 z3
            obtain ⟨z0, z1, z2, z3⟩ := hx3.two
            have hr3 := hr1.later hbx3
            go_wp2_with (fail)
            refine (H4 _ (hr.later hb03)).out.mono ?_
            rintro e w4_ ⟨rfl, hbx4⟩
            have hb04 := bl_call hb03 hbx4
            have hx4 := hx3.call hbx4
            clear z0 z1 z2 z3
            obtain ⟨z0, z1, z2, z3⟩ := hx4.two
            have hr4 := hr3.later hbx4
            go_wp2_with (fail)
            refine (H5 _ _ _ hr4).out.mono ?_
            rintro e w5_ ⟨rfl, hbx5⟩
            have hb05 := bl_call hb04 hbx5
            have hx5 := hx4.call hbx5
            clear z0 z1 z2 z3
            obtain ⟨z0, z1, z2, z3⟩ := hx5.two
            go_wp2_with (fail)
            refine (HK _).out.mono ?_
            rintro e wk ⟨rfl, hbk⟩
            go_wp2_with (fail)
            go_ret
            exact ⟨rfl, bl_call hb05 hbk⟩
end Go.Proofs.Ytbbhaongakmhpaa
