/- ClockLess, walked. -/
import Derived.Test.YtiffgaelndajpaaKnownK
import Derived.Test.YtiffgaelndajpaaWit
namespace Go.Proofs.Ytiffgaelndajpaa
open Go.RowKit

set_option maxRecDepth 100000 in
set_option maxHeartbeats 4000000 in
theorem clockLess_walk (A : Option Addr) (l : List T3) (c : Nat) (k x y : Int) (w : World) (hcap : l.length ≤ c) (hr : Rd w A (cellsT l)) (_hk : (Lit.int .i64 k).wf = true) (_hx : (Lit.int .i64 x).wf = true) (_hy : (Lit.int .i64 y).wf = true) :
    Calls Try.prog 14 #[.slice A l.length c, .int .i64 k, .agg #[.int .i64 x, .int .i64 y]] w fun e w' => e = .returned (.bool true) ∧ Below w.heap.size w w' := by
  have hb00 := bl_alloc (Below.refl w.heap.size w) (.cells #[.int .i64 x, .int .i64 y] 42)
  have hx0 : Bx (w.alloc (.cells #[.int .i64 x, .int .i64 y] 42)) w.heap.size 42 #[.int .i64 x, .int .i64 y] := Bx.new _ _ _
  have HL := fun w => Lib.hid (long_c A l.length c w)
  have HK := fun w => Lib.hid (known_c w)
  by_cases hlong : 40 < l.length
  · rw [decide_eq_true hlong] at HL
    go_enter Try.func14, Try.ntmps14
    go_wp2_with (fail)
    refine (HL _).out.mono ?_
    rintro e w1 ⟨rfl, rfl⟩
    go_wp2_with (fail)
    refine (HK _).out.mono ?_
    rintro e w2 ⟨rfl, hb2⟩
    go_wp2_with (fail)
    go_ret
    exact ⟨rfl, bl_call hb00 hb2⟩
  · rw [decide_eq_false hlong] at HL
    have hlen : l.length ≤ 1000 := by omega
    clear hlong
    have H1 := fun w h => Lib.hid (Without_c A l c k w hlen h)
    have H2 := fun w h => Lib.hid (rWithout_c A l c k w hlen hcap h)
    have hMl : (witL l k).length ≤ 1000 := by
      unfold witL
      split
      · have := List.length_eraseIdx_le l k.toNat; omega
      · simp
    have HS := fun B B' c' c'' w h h' => Lib.hid (rSame_c B B' (witL l k) c' c'' w (by omega) h h')
    by_cases hv : witE l k = 0
    · obtain ⟨vl, k0, k1⟩ := witE_zero.1 hv
      have hl := validE_ok.1 vl
      have hM : witL l k = l.eraseIdx k.toNat := by rw [witL, if_pos hv]
      have ho := erase_ok hl k.toNat
      rw [← hM] at ho
      have vo := validE_ok.2 ho
      by_cases hn : (witL l k).length = 0
      · have hn0 : (((witL l k).length : Int) == 0) = true := by simp [hn]
        rw [hv] at H1 H2
        have HN := Lib.hid hn
        clear hM vl vo hv hl ho k0 k1 hn
        generalize witL l k = M at *
        go_enter Try.func14, Try.ntmps14
        go_wp2_with (fail)
        refine (HL _).out.mono ?_
        rintro e w1 ⟨rfl, rfl⟩
        go_wp2_with (fail)
        refine (H1 _ (hr.later hb00)).out.mono ?_
        rintro e w1 ⟨A1, c1, rfl, ho1, hb1⟩
        have hb01 := bl_call hb00 hb1
        go_wp2_with (fail)
        refine (H2 _ (hr.later hb01)).out.mono ?_
        rintro e w2 ⟨A2, c2, rfl, ho2, hb2⟩
        have hb02 := bl_call hb01 hb2
        have hra := (own_rd ho1).1
        have hrb := (own_rd ho2).1
        go_wp2_with (fail)
        refine (HS _ _ _ _ _ (hra.later hb2) hrb).out.mono ?_
        rintro e w3 ⟨rfl, hb3⟩
        have hb03 := bl_call hb02 hb3
        go_wp2_with (fail)
        refine (HK _).out.mono ?_
        rintro e wk ⟨rfl, hbk⟩
        go_wp2_with (fail)
        go_ret
        exact ⟨rfl, bl_call hb03 hbk⟩
      · have hn0 : (((witL l k).length : Int) == 0) = false := by rw [beq_eq_false_iff_ne]; omega
        have hlate : lateG (witL l k) ≤ lateG l := by
          rw [lateG, lateG, if_pos vo, if_pos vl, hM]
          exact late_less hl (by omega) (by rw [← hM]; omega)
        have hstr : strE (witL l k) x y = strE l x y := by rw [strE, strE, if_pos vo, if_pos vl]
        have hdem : demG (witL l k) x y ≤ demG l x y := by
          rw [demG, demG, hstr]
          split
          · rw [hM]; exact dem_less hl (by omega) x y
          · exact Int.le_refl _
        have H3 := fun B c' w h => Lib.hid (Late_c B (witL l k) c' w hMl h)
        have H4 := fun w h => Lib.hid (Late_c A l c w hlen h)
        have H5 := fun B c' w h => Lib.hid (Demand_c B (witL l k) c' x y w hMl h)
        have H6 := fun w h => Lib.hid (Demand_c A l c x y w hlen h)
        rw [vo] at H3
        rw [vl] at H4
        rw [hstr] at H5
        rw [hv] at H1 H2
        clear hstr hM vl vo hv hl ho k0 k1 hn
        generalize lateG (witL l k) = N' at *
        generalize demG (witL l k) x y = D' at *
        generalize witL l k = M at *
        generalize lateG l = N at *
        generalize demG l x y = D at *
        generalize strE l x y = E at *
        go_enter Try.func14, Try.ntmps14
        go_wp2_with (fail)
        refine (HL _).out.mono ?_
        rintro e w1 ⟨rfl, rfl⟩
        go_wp2_with (fail)
        refine (H1 _ (hr.later hb00)).out.mono ?_
        rintro e w1 ⟨A1, c1, rfl, ho1, hb1⟩
        have hb01 := bl_call hb00 hb1
        go_wp2_with (fail)
        refine (H2 _ (hr.later hb01)).out.mono ?_
        rintro e w2 ⟨A2, c2, rfl, ho2, hb2⟩
        have hb02 := bl_call hb01 hb2
        have hra := (own_rd ho1).1
        have hrb := (own_rd ho2).1
        go_wp2_with (fail)
        refine (HS _ _ _ _ _ (hra.later hb2) hrb).out.mono ?_
        rintro e w3 ⟨rfl, hb3⟩
        have hb03 := bl_call hb02 hb3
        go_wp2_with (fail)
        refine (H3 _ _ _ ((hra.later hb2).later hb3)).out.mono ?_
        rintro e w4 ⟨rfl, hb4⟩
        have hb04 := bl_call hb03 hb4
        go_wp2_with (fail)
        refine (H4 _ (hr.later hb04)).out.mono ?_
        rintro e w5 ⟨rfl, hb5⟩
        have hb05 := bl_call hb04 hb5
        obtain ⟨z1, z2, z3, z4⟩ := (((((hx0.call hb1).call hb2).call hb3).call hb4).call hb5).two
        go_wp2_with (fail)
        refine (H5 _ _ _ ((((hra.later hb2).later hb3).later hb4).later hb5)).out.mono ?_
        rintro e w6 ⟨rfl, hb6⟩
        have hb06 := bl_call hb05 hb6
        obtain ⟨z1, z2, z3, z4⟩ := ((((((hx0.call hb1).call hb2).call hb3).call hb4).call hb5).call hb6).two
        go_wp2_with (fail)
        refine (H6 _ (hr.later hb06)).out.mono ?_
        rintro e w7 ⟨rfl, hb7⟩
        have hb07 := bl_call hb06 hb7
        go_wp2_with (fail)
        refine (HK _).out.mono ?_
        rintro e wk ⟨rfl, hbk⟩
        go_wp2_with (fail)
        go_ret
        exact ⟨rfl, bl_call hb07 hbk⟩
    · have hv' : (witE l k != 0) = true := by simpa using hv
      generalize witL l k = M at *
      generalize witE l k = v at *
      go_enter Try.func14, Try.ntmps14
      go_wp2_with (fail)
      refine (HL _).out.mono ?_
      rintro e w1 ⟨rfl, rfl⟩
      go_wp2_with (fail)
      refine (H1 _ (hr.later hb00)).out.mono ?_
      rintro e w1 ⟨A1, c1, rfl, ho1, hb1⟩
      have hb01 := bl_call hb00 hb1
      go_wp2_with (fail)
      refine (H2 _ (hr.later hb01)).out.mono ?_
      rintro e w2 ⟨A2, c2, rfl, ho2, hb2⟩
      have hb02 := bl_call hb01 hb2
      have hra := (own_rd ho1).1
      have hrb := (own_rd ho2).1
      go_wp2_with (fail)
      refine (HS _ _ _ _ _ (hra.later hb2) hrb).out.mono ?_
      rintro e w3 ⟨rfl, hb3⟩
      have hb03 := bl_call hb02 hb3
      go_wp2_with (fail)
      refine (HK _).out.mono ?_
      rintro e wk ⟨rfl, hbk⟩
      go_wp2_with (fail)
      go_ret
      exact ⟨rfl, bl_call hb03 hbk⟩
end Go.Proofs.Ytiffgaelndajpaa
