/- The walk of the top law of drifts. -/
import Derived.Test.YtbbhaongakmhpaaTopDA
import Derived.Test.YtbbhaongakmhpaaTopDB
namespace Go.Proofs.Ytbbhaongakmhpaa
open Go.RowKit

theorem first_at (l : List T3) (t : Int) : (∀ j, j < l.length → tm l j < t) ∨ ∃ q, q < l.length ∧ t ≤ tm l q ∧ ∀ j, j < q → tm l j < t := by
  have key : ∀ n, (∀ j, j < n → tm l j < t) ∨ ∃ q, q < n ∧ t ≤ tm l q ∧ ∀ j, j < q → tm l j < t := by
    intro n
    induction n with
    | zero => exact .inl fun j hj => absurd hj (Nat.not_lt_zero j)
    | succ n ih =>
      rcases ih with h | ⟨q, h1, h2, h3⟩
      · by_cases hn : tm l n < t
        · exact .inl fun j hj => by
            rcases Nat.lt_or_ge j n with h4 | h4
            · exact h j h4
            · obtain rfl : j = n := by omega
              exact hn
        · exact .inr ⟨n, Nat.lt_succ_self n, by omega, h⟩
      · exact .inr ⟨q, by omega, h2, h3⟩
  exact key l.length
set_option maxRecDepth 100000 in
set_option maxHeartbeats 8000000 in
theorem topDrifts_walk (A : Option Addr) (l : List T3) (c : Nat) (r t : Int) (w : World) (hcap : l.length ≤ c) (hr : Rd w A (cellsT l)) (_hi : (Lit.int .i64 r).wf = true) (_hj : (Lit.int .i64 t).wf = true) :
    Calls Try.prog 16 #[.slice A l.length c, .int .i64 r, .int .i64 t] w fun e w' => e = .returned (.bool true) ∧ Below w.heap.size w w' := by
  have hb0 := bl_alloc (Below.refl w.heap.size w) (.cells #[.int .i64 0, .int .i64 0, .int .i64 1, .int .i64 4, .int .i64 9, .int .i64 10] 55)
  have hr3 := rd_newT w 55 [(0, 0, 1), (4, 9, 10)]
  have HST : Hid (∀ (B : Option Addr) (w : World), Rd w B (cellsT [(0, 0, 1), (4, 9, 10)]) → Calls Try.prog 29 #[.slice B 2 2] w fun e w' => e = .returned (.tuple #[.agg #[.int .i64 2, .int .i64 1], .int .i64 0]) ∧ Below w.heap.size w w') := fun B w h => by
    have := Steepest_c B [(0, 0, 1), (4, 9, 10)] 2 w (by decide) h
    rw [ste_top.1, ste_top.2] at this
    exact this
  have HL := fun w => Lib.hid (long_c A l.length c w)
  have hr0 := hr
  by_cases hlong : 100 < l.length
  · rw [decide_eq_true hlong] at HL
    clear hlong
    go_enter Try.func16, Try.ntmps16
    go_wp2_with (fail)
    refine (HST.out _ _ hr3).mono ?_
    rintro e w1 ⟨rfl, hb1⟩
    have hb01 := bl_call hb0 hb1
    have hxs : Bx (w1.alloc (.cells #[.int .i64 2, .int .i64 1] 39)) w1.heap.size 39 #[.int .i64 2, .int .i64 1] := Bx.new _ _ _
    obtain ⟨y0, y1, y2, y3⟩ := hxs.two
    have hbP := bl_alloc hb01 (.cells #[.int .i64 2, .int .i64 1] 39)
    go_wp2_with (fail)
    refine (HL _).out.mono ?_
    rintro e wl ⟨rfl, rfl⟩
    clear hxs y0 y1 y2 y3 hb1 hb01 hb0 hr3
    go_wp2_with (fail)
    go_ret
    exact ⟨rfl, hbP⟩
  · rw [decide_eq_false hlong] at HL
    have hlen : l.length ≤ 1000 := by omega
    have hlong0 := hlong
    clear hlong
    have H1 := fun w h => Lib.hid (Agree_c A l c r w hlen h)
    have H5 := fun w h => Lib.hid (Tight_c A l c r w hlen h)
    by_cases hE : ratE l r = 0
    · obtain ⟨ho, h0, h9⟩ := ratE_ok.1 hE
      have hv := validE_ok.2 ho
      have HSL := Lib.hid (top_slow hE)
      have H2 := fun w h => Lib.hid (Slowest_c A l c w hlen h)
      have H3 := fun w h => Lib.hid (Clash_c A l c r w hlen h)
      have H4 := fun w h => Lib.hid (Track_c A l c r w hlen h)
      rw [hv] at H2
      rw [hE] at H1 H3 H4 H5
      rcases ha : agreeB l r with _ | _
      · have hg : agrG l r = false := by rw [agrG_yes hE, ha]
        have hT : tgtG l r = [] := by rw [tgtG, hg]; rfl
        have hK : trkG l r = [] := by rw [trkG, hg]; rfl
        obtain ⟨i, k, hC, hZ⟩ := top_clash hE ha
        have H6 := fun w h => Lib.hid (CheckClash_c A l c r i k w hlen h)
        rw [hg] at H1 H4 H5
        rw [hT] at H5
        rw [hK] at H4
        rw [hC] at H3
        rw [hZ] at H6
        simp only [pair4] at H3
        rw [ha] at HSL
        clear hg hT hK hC hZ ha ho h0 h9 hv hE
        generalize sloG l = S at *
        obtain ⟨s, is⟩ := S
        simp only [] at H2 HSL
        cases is with
        | false =>
          go_enter Try.func16, Try.ntmps16
          go_wp2_with (fail)
          refine (HST.out _ _ hr3).mono ?_
          rintro e w1 ⟨rfl, hb1⟩
          have hb01 := bl_call hb0 hb1
          have hxs : Bx (w1.alloc (.cells #[.int .i64 2, .int .i64 1] 39)) w1.heap.size 39 #[.int .i64 2, .int .i64 1] := Bx.new _ _ _
          obtain ⟨y0, y1, y2, y3⟩ := hxs.two
          have hbP := bl_alloc hb01 (.cells #[.int .i64 2, .int .i64 1] 39)
          go_wp2_with (fail)
          refine (HL _).out.mono ?_
          rintro e wl ⟨rfl, rfl⟩
          clear hxs y0 y1 y2 y3 hb1 hb01 hb0 hr3
          go_wp2_with (fail)
          refine (H1 _ (hr.later hbP)).out.mono ?_
          rintro e w1_0 ⟨rfl, hbx10⟩
          have hq10 := bl_call hbP hbx10
          go_wp2_with (fail)
          refine (H2 _ (hr.later hq10)).out.mono ?_
          rintro e w1_1 ⟨rfl, hbx11⟩
          have hq11 := bl_call hq10 hbx11
          go_wp2_with (fail)
          refine (H3 _ (hr.later hq11)).out.mono ?_
          rintro e w1_2 ⟨rfl, hbx12⟩
          have hq12 := bl_call hq11 hbx12
          go_wp2_with (fail)
          refine (H6 _ (hr.later hq12)).out.mono ?_
          rintro e w1_3 ⟨rfl, hbx13⟩
          have hq13 := bl_call hq12 hbx13
          go_wp2_with (fail)
          refine (H4 _ (hr.later hq13)).out.mono ?_
          rintro e w1_4 ⟨A1, c1, rfl, ho1, hbx14⟩
          have hq14 := bl_call hq13 hbx14
          go_wp2_with (fail)
          refine (H5 _ (hr.later hq14)).out.mono ?_
          rintro e w1_5 ⟨A2, c2, rfl, ho2, hbx15⟩
          have hq15 := bl_call hq14 hbx15
          go_wp2_with (fail)
          go_ret
          exact ⟨rfl, hq15⟩
        | true =>
          have hsr : ¬ s ≤ r := by have := HSL.out; simp at this; omega
          clear HSL
          go_enter Try.func16, Try.ntmps16
          go_wp2_with (fail)
          refine (HST.out _ _ hr3).mono ?_
          rintro e w1 ⟨rfl, hb1⟩
          have hb01 := bl_call hb0 hb1
          have hxs : Bx (w1.alloc (.cells #[.int .i64 2, .int .i64 1] 39)) w1.heap.size 39 #[.int .i64 2, .int .i64 1] := Bx.new _ _ _
          obtain ⟨y0, y1, y2, y3⟩ := hxs.two
          have hbP := bl_alloc hb01 (.cells #[.int .i64 2, .int .i64 1] 39)
          go_wp2_with (fail)
          refine (HL _).out.mono ?_
          rintro e wl ⟨rfl, rfl⟩
          clear hxs y0 y1 y2 y3 hb1 hb01 hb0 hr3
          go_wp2_with (fail)
          refine (H1 _ (hr.later hbP)).out.mono ?_
          rintro e w1_0 ⟨rfl, hbx10⟩
          have hq10 := bl_call hbP hbx10
          go_wp2_with (fail)
          refine (H2 _ (hr.later hq10)).out.mono ?_
          rintro e w1_1 ⟨rfl, hbx11⟩
          have hq11 := bl_call hq10 hbx11
          go_wp2_with (fail)
          refine (H3 _ (hr.later hq11)).out.mono ?_
          rintro e w1_2 ⟨rfl, hbx12⟩
          have hq12 := bl_call hq11 hbx12
          go_wp2_with (fail)
          refine (H6 _ (hr.later hq12)).out.mono ?_
          rintro e w1_3 ⟨rfl, hbx13⟩
          have hq13 := bl_call hq12 hbx13
          go_wp2_with (fail)
          refine (H4 _ (hr.later hq13)).out.mono ?_
          rintro e w1_4 ⟨A1, c1, rfl, ho1, hbx14⟩
          have hq14 := bl_call hq13 hbx14
          go_wp2_with (fail)
          refine (H5 _ (hr.later hq14)).out.mono ?_
          rintro e w1_5 ⟨A2, c2, rfl, ho2, hbx15⟩
          have hq15 := bl_call hq14 hbx15
          go_wp2_with (fail)
          go_ret
          exact ⟨rfl, hq15⟩
      · have hg : agrG l r = true := by rw [agrG_yes hE, ha]
        have hT : tgtG l r = tightL l r := by rw [tgtG, hg]; rfl
        have hK : trkG l r = trackL l r := by rw [trkG, hg]; rfl
        have hC : clsG l r = none := by rw [clsG, if_pos hE, agreeB_none.1 ha]
        rw [ha] at HSL
        have hTl := tightL_length l r
        have hOT := tight_ok ho h0 ha
        have hrT : ratE (tightL l r) r = 0 := ratE_ok.2 ⟨hOT, h0, h9⟩
        have hKl : (trackL l r).length ≤ 100000 := by rw [trackL_length]; have := (times_pos ho).2; omega
        have z1 : chtE l r (trackL l r) = 0 := by unfold chtE; rw [if_pos hE]; exact keepE_zero.2 (track_keeps ho h0 ha)
        have z2 : chtE (tightL l r) r (trackL l r) = 0 := by unfold chtE; rw [if_pos hrT]; exact keepE_zero.2 (track_tight ho h0 ha)
        have H6 := fun B d w h h' => Lib.hid (CheckTrack_c A B l (trackL l r) c d r w hlen hKl h h')
        have H7 := fun A2 c2 B d w h h' => Lib.hid (CheckTrack_c A2 B (tightL l r) (trackL l r) c2 d r w (by omega) hKl h h')
        have H8 := fun w h => Lib.hid (Bounds_c A l c r t w hlen h)
        rw [z1] at H6
        rw [z2] at H7
        rw [hg] at H1 H4 H5
        rw [hT] at H5
        rw [hK] at H4
        rw [hC] at H3
        simp only [pair4] at H3
        clear hK hC z1 z2 hKl hrT hOT hT
        generalize sloG l = S at *
        obtain ⟨s, is⟩ := S
        simp only [] at H2 HSL
        have hsr : is = true ∧ s ≤ r := by have := HSL.out; simp at this; exact ⟨this.1.symm ▸ rfl, this.2⟩
        obtain ⟨rfl, hsr⟩ := hsr
        clear HSL
        have HTG := Lib.hid (fun k (h : k < l.length) => @tight_get l r k h)
        generalize trackL l r = TR at *
        generalize tightL l r = TL at *
        have hne := ho.ne
        have hne' : ((l.length : Int) == 0) = false := by rw [beq_eq_false_iff_ne]; omega
        have hne2 : ¬ (l.length : Int) = 0 := by omega
        delta OutTB at H5
        rw [hTl] at H5 H7
        have hTne : ((l.length : Int) != (l.length : Int)) = false := by simp
        have HTL := Lib.hid hTl
        clear hTl
        by_cases ht : timE l r t = 0
        · have hB : bndT l r t = .tuple #[.int .i64 (lowB l r t), .int .i64 (highB l r t), .bool true, .int .i64 0] := if_pos ⟨ht, ha⟩
          have hlh := low_high ho h0 ha t
          rw [hB] at H8
          clear hB
          by_cases ht2 : 1000 < t
          · clear HTG ha ho hv hE hne ht h0 h9 hg
            generalize lowB l r t = lo at *
            generalize highB l r t = hi at *
            go_enter Try.func16, Try.ntmps16
            go_wp2_with (fail)
            refine (HST.out _ _ hr3).mono ?_
            rintro e w1 ⟨rfl, hb1⟩
            have hb01 := bl_call hb0 hb1
            have hxs : Bx (w1.alloc (.cells #[.int .i64 2, .int .i64 1] 39)) w1.heap.size 39 #[.int .i64 2, .int .i64 1] := Bx.new _ _ _
            obtain ⟨y0, y1, y2, y3⟩ := hxs.two
            have hbP := bl_alloc hb01 (.cells #[.int .i64 2, .int .i64 1] 39)
            go_wp2_with (fail)
            refine (HL _).out.mono ?_
            rintro e wl ⟨rfl, rfl⟩
            clear hxs y0 y1 y2 y3 hb1 hb01 hb0 hr3
            go_wp2_with (fail)
            refine (H1 _ (hr.later hbP)).out.mono ?_
            rintro e w2_0 ⟨rfl, hbx20⟩
            have hq20 := bl_call hbP hbx20
            go_wp2_with (fail)
            refine (H2 _ (hr.later hq20)).out.mono ?_
            rintro e w2_1 ⟨rfl, hbx21⟩
            have hq21 := bl_call hq20 hbx21
            go_wp2_with (fail)
            refine (H3 _ (hr.later hq21)).out.mono ?_
            rintro e w2_2 ⟨rfl, hbx22⟩
            have hq22 := bl_call hq21 hbx22
            go_wp2_with (fail)
            refine (H4 _ (hr.later hq22)).out.mono ?_
            rintro e w2_3 ⟨A1, c1, rfl, ho1, hbx23⟩
            have hq23 := bl_call hq22 hbx23
            go_wp2_with (fail)
            refine (H5 _ (hr.later hq23)).out.mono ?_
            rintro e w2_4 ⟨A2, c2, rfl, ho2, hbx24⟩
            have hq24 := bl_call hq23 hbx24
            have hr1 := (own_rd ho1).1.later hbx24
            have hr2 : Rd w2_4 A2 (cellsT TL) := (own_rd ho2).1
            go_wp2_with (fail)
            refine (H6 _ _ _ (hr.later hq24) hr1).out.mono ?_
            rintro e w3_0 ⟨rfl, hbx30⟩
            have hq30 := bl_call hq24 hbx30
            go_wp2_with (fail)
            refine (H7 _ _ _ _ _ (hr2.later hbx30) (hr1.later hbx30)).out.mono ?_
            rintro e w3_1 ⟨rfl, hbx31⟩
            have hq31 := bl_call hq30 hbx31
            go_wp2_with (fail)
            refine (H8 _ (hr.later hq31)).out.mono ?_
            rintro e w3_2 ⟨rfl, hbx32⟩
            have hq32 := bl_call hq31 hbx32
            go_wp2_with (fail)
            go_ret
            exact ⟨rfl, hq32⟩
          · rcases first_at l t with hall | ⟨q, hq, hq2, hall⟩
            · exact topD_all A l c r t w hcap hr0 hlong0 hE ha ht ht2 hall
            · exact topD_at A l c r t w hcap hr0 hlong0 hE ha ht ht2 q hq hq2 hall
        · have hB : bndT l r t = .tuple #[.int .i64 0, .int .i64 0, .bool false, .int .i64 (timE l r t)] := if_neg (fun h => ht h.1)
          have ht' : (timE l r t != 0) = true := by simpa using ht
          rw [hB] at H8
          clear hB HTG ha ho hv hE hne ht h0 h9 hg
          generalize timE l r t = E at *
          go_enter Try.func16, Try.ntmps16
          go_wp2_with (fail)
          refine (HST.out _ _ hr3).mono ?_
          rintro e w1 ⟨rfl, hb1⟩
          have hb01 := bl_call hb0 hb1
          have hxs : Bx (w1.alloc (.cells #[.int .i64 2, .int .i64 1] 39)) w1.heap.size 39 #[.int .i64 2, .int .i64 1] := Bx.new _ _ _
          obtain ⟨y0, y1, y2, y3⟩ := hxs.two
          have hbP := bl_alloc hb01 (.cells #[.int .i64 2, .int .i64 1] 39)
          go_wp2_with (fail)
          refine (HL _).out.mono ?_
          rintro e wl ⟨rfl, rfl⟩
          clear hxs y0 y1 y2 y3 hb1 hb01 hb0 hr3
          go_wp2_with (fail)
          refine (H1 _ (hr.later hbP)).out.mono ?_
          rintro e w2_0 ⟨rfl, hbx20⟩
          have hq20 := bl_call hbP hbx20
          go_wp2_with (fail)
          refine (H2 _ (hr.later hq20)).out.mono ?_
          rintro e w2_1 ⟨rfl, hbx21⟩
          have hq21 := bl_call hq20 hbx21
          go_wp2_with (fail)
          refine (H3 _ (hr.later hq21)).out.mono ?_
          rintro e w2_2 ⟨rfl, hbx22⟩
          have hq22 := bl_call hq21 hbx22
          go_wp2_with (fail)
          refine (H4 _ (hr.later hq22)).out.mono ?_
          rintro e w2_3 ⟨A1, c1, rfl, ho1, hbx23⟩
          have hq23 := bl_call hq22 hbx23
          go_wp2_with (fail)
          refine (H5 _ (hr.later hq23)).out.mono ?_
          rintro e w2_4 ⟨A2, c2, rfl, ho2, hbx24⟩
          have hq24 := bl_call hq23 hbx24
          have hr1 := (own_rd ho1).1.later hbx24
          have hr2 : Rd w2_4 A2 (cellsT TL) := (own_rd ho2).1
          go_wp2_with (fail)
          refine (H6 _ _ _ (hr.later hq24) hr1).out.mono ?_
          rintro e w3_0 ⟨rfl, hbx30⟩
          have hq30 := bl_call hq24 hbx30
          go_wp2_with (fail)
          refine (H7 _ _ _ _ _ (hr2.later hbx30) (hr1.later hbx30)).out.mono ?_
          rintro e w3_1 ⟨rfl, hbx31⟩
          have hq31 := bl_call hq30 hbx31
          go_wp2_with (fail)
          refine (H8 _ (hr.later hq31)).out.mono ?_
          rintro e w3_2 ⟨rfl, hbx32⟩
          have hq32 := bl_call hq31 hbx32
          go_wp2_with (fail)
          go_ret
          exact ⟨rfl, hq32⟩
    · have hg : agrG l r = false := agrG_no hE
      have hT : tgtG l r = [] := by rw [tgtG, hg]; rfl
      have hv' : (ratE l r != 0) = true := by simpa using hE
      rw [hg] at H1 H5
      rw [hT] at H5
      clear hg hT hE
      generalize ratE l r = E at *
      go_enter Try.func16, Try.ntmps16
      go_wp2_with (fail)
      refine (HST.out _ _ hr3).mono ?_
      rintro e w1 ⟨rfl, hb1⟩
      have hb01 := bl_call hb0 hb1
      have hxs : Bx (w1.alloc (.cells #[.int .i64 2, .int .i64 1] 39)) w1.heap.size 39 #[.int .i64 2, .int .i64 1] := Bx.new _ _ _
      obtain ⟨y0, y1, y2, y3⟩ := hxs.two
      have hbP := bl_alloc hb01 (.cells #[.int .i64 2, .int .i64 1] 39)
      go_wp2_with (fail)
      refine (HL _).out.mono ?_
      rintro e wl ⟨rfl, rfl⟩
      clear hxs y0 y1 y2 y3 hb1 hb01 hb0 hr3
      go_wp2_with (fail)
      refine (H1 _ (hr.later hbP)).out.mono ?_
      rintro e w4_0 ⟨rfl, hbx40⟩
      have hq40 := bl_call hbP hbx40
      go_wp2_with (fail)
      refine (H5 _ (hr.later hq40)).out.mono ?_
      rintro e w4_1 ⟨A2, c2, rfl, ho2, hbx41⟩
      have hq41 := bl_call hq40 hbx41
      go_wp2_with (fail)
      go_ret
      exact ⟨rfl, hq41⟩
end Go.Proofs.Ytbbhaongakmhpaa
