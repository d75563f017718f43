/- ClockTurns, walked. -/
import Derived.Test.YtiffgaelndajpaaKnownK
import Derived.Test.YtiffgaelndajpaaWit
namespace Go.Proofs.Ytiffgaelndajpaa
open Go.RowKit

set_option maxRecDepth 100000 in
set_option maxHeartbeats 4000000 in
theorem clockTurns_walk (A : Option Addr) (l : List T3) (c : Nat) (w : World) (_hcap : l.length ≤ c) (hr : Rd w A (cellsT l)) :
    Calls Try.prog 11 #[.slice A l.length c] w fun e w' => e = .returned (.bool true) ∧ Below w.heap.size w w' := by
  have HL := fun w => Lib.hid (long_c A l.length c w)
  have HK := fun w => Lib.hid (known_c w)
  by_cases hlong : 40 < l.length
  · rw [decide_eq_true hlong] at HL
    go_enter Try.func11, Try.ntmps11
    go_wp2_with (fail)
    refine (HL _).out.mono ?_
    rintro e w1 ⟨rfl, rfl⟩
    go_wp2_with (fail)
    refine (HK _).out.mono ?_
    rintro e w2 ⟨rfl, hb2⟩
    go_wp2_with (fail)
    go_ret
    exact ⟨rfl, hb2⟩
  · rw [decide_eq_false hlong] at HL
    have hlen : l.length ≤ 1000 := by omega
    clear hlong
    have hbe : Below w.heap.size w (w.alloc (.cells #[] 40)) := bl_alloc (Below.refl _ _) _
    obtain ⟨A0, c0, wq, EE, hoq, hgq⟩ := grow_rows (w.alloc (.cells #[] 40)) w.heap.size _ [] l A c (own_empty (Nat.le_refl _) (Bx.new w _ _)) (hr.later hbe) (by simp; omega) hbe.size
    have hb00 : Below w.heap.size w wq := hbe.trans (grown_below (own_empty (Nat.le_refl _) (Bx.new w _ _)) hgq hbe.size)
    rw [List.nil_append] at hoq
    simp only [List.length_nil, Nat.zero_add] at EE
    have E0 := Lib.hid EE
    have hro := (own_rd hoq).1
    clear EE hgq hbe
    have H1 := fun B c' w h => Lib.hid (Turn_c B l c' w hlen h)
    have H2 := fun w h => Lib.hid (rTurn_c A l c w hlen h)
    have hMl : (turL l).length ≤ 1000 := by
      unfold turL
      split
      · rw [List.length_map]; omega
      · simp
    have HS := fun B B' c' c'' w h h' => Lib.hid (rSame_c B B' (turL l) c' c'' w (by omega) h h')
    by_cases hv : validE l = 0
    · have hl := validE_ok.1 hv
      have ho := turn_ok hl
      have hM : turL l = l.map turnJ := by rw [turL, if_pos hv]
      rw [← hM] at ho
      have vo := validE_ok.2 ho
      have e1 : slackG (turL l) = slackG l := by rw [slackG, slackG, if_pos vo, if_pos hv, hM, slack_turn hl]
      have e2 : someG (turL l) = someG l := by rw [someG, someG, if_pos vo, if_pos hv, hM, List.length_map]
      have e3 : speedG (turL l) = speedG l := by rw [speedG, speedG, if_pos vo, if_pos hv, hM, speed_turn hl]
      have e4 : canG (turL l) = canG l := by rw [canG, canG, if_pos vo, if_pos hv, canB, canB, hM, late_turn hl]
      have H3 := fun B c' w h => Lib.hid (Slack_c B (turL l) c' w hMl h)
      have H4 := fun w h => Lib.hid (Slack_c A l c w hlen h)
      have H5 := fun B c' w h => Lib.hid (Speed_c B (turL l) c' w hMl h)
      have H6 := fun w h => Lib.hid (Speed_c A l c w hlen h)
      have H7 := fun B c' w h => Lib.hid (CanKeep_c B (turL l) c' w hMl h)
      have H8 := fun w h => Lib.hid (CanKeep_c A l c w hlen h)
      have HSL := fun B B' c' c'' w h h' => Lib.hid (rSame_c B B' l c' c'' w (by omega) h h')
      rw [e1, e2, vo] at H3
      rw [e3, vo] at H5
      rw [e4, vo] at H7
      rw [hv] at H1 H2 H4 H6 H8
      clear e1 e2 e3 e4 vo hM ho hl hv
      generalize turL l = M at *
      generalize slackG l = S at *
      generalize someG l = sm at *
      generalize speedG l = P at *
      generalize canG l = cn at *
      obtain ⟨p, q⟩ := P
      simp only [] at H5 H6
      go_enter Try.func11, Try.ntmps11
      go_wp2_with (fail)
      refine (HL _).out.mono ?_
      rintro e w1 ⟨rfl, rfl⟩
      go_wp2_with (at_builtin; refine wpList_append_eq rfl _ _ 22 rfl _ _ _ wq rfl rfl E0.out ?_)
      refine (H1 _ _ _ hro).out.mono ?_
      rintro e w1 ⟨A1, c1, rfl, ho1, hb1⟩
      have hb01 := bl_call hb00 hb1
      go_wp2_with (fail)
      refine (H2 _ (hr.later hb01)).out.mono ?_
      rintro e w2 ⟨A2, c2, rfl, ho2, hb2⟩
      have hb02 := bl_call hb01 hb2
      have hra := (own_rd ho1).1
      have hrb := (own_rd ho2).1
      go_wp2_with (fail)
      refine (HS _ _ _ _ _ (hra.later hb2) hrb).out.mono ?_
      rintro e w3 ⟨rfl, hb3⟩
      have hb03 := bl_call hb02 hb3
      go_wp2_with (fail)
      refine (H3 _ _ _ ((hra.later hb2).later hb3)).out.mono ?_
      rintro e w4 ⟨rfl, hb4⟩
      have hb04 := bl_call hb03 hb4
      go_wp2_with (fail)
      refine (H4 _ (hr.later hb04)).out.mono ?_
      rintro e w5 ⟨rfl, hb5⟩
      have hb05 := bl_call hb04 hb5
      go_wp2_with (fail)
      refine (H5 _ _ _ ((((hra.later hb2).later hb3).later hb4).later hb5)).out.mono ?_
      rintro e w6 ⟨rfl, hb6⟩
      have hb06 := bl_call hb05 hb6
      have hx6 : Bx (w6.alloc (.cells #[.int .i64 p, .int .i64 q] 51)) w6.heap.size 51 #[.int .i64 p, .int .i64 q] := Bx.new _ _ _
      have hbl6 := bl_alloc (Below.refl w6.heap.size w6) (.cells #[.int .i64 p, .int .i64 q] 51)
      have hb06a := bl_call hb06 hbl6
      go_wp2_with (fail)
      refine (H6 _ (hr.later hb06a)).out.mono ?_
      rintro e w7 ⟨rfl, hb7⟩
      have hb07 := bl_call hb06a hb7
      have hx7 := (hx6.call hb7).alloc (.cells #[.int .i64 p, .int .i64 q] 51)
      have hy7 : Bx (w7.alloc (.cells #[.int .i64 p, .int .i64 q] 51)) w7.heap.size 51 #[.int .i64 p, .int .i64 q] := Bx.new _ _ _
      have hbl7 := bl_alloc (Below.refl w7.heap.size w7) (.cells #[.int .i64 p, .int .i64 q] 51)
      have hb07a := bl_call hb07 hbl7
      have hq1 : Below w1.heap.size w1 w5 := bl_call (bl_call (bl_call hb2 hb3) hb4) hb5
      have hq2 := bl_call (bl_call (bl_call (bl_call hq1 hb6) hbl6) hb7) hbl7
      go_wp2_with (fail)
      refine (H7 _ _ _ (hra.later hq2)).out.mono ?_
      rintro e w8 ⟨rfl, hb8⟩
      have hb08 := bl_call hb07a hb8
      have hq3 := bl_call hq2 hb8
      go_wp2_with (fail)
      refine (H8 _ (hr.later hb08)).out.mono ?_
      rintro e w9 ⟨rfl, hb9⟩
      have hb09 := bl_call hb08 hb9
      have hq4 := bl_call hq3 hb9
      have hx9 := (hx7.call hb8).call hb9
      have hy9 := (hy7.call hb8).call hb9
      have ho9 := own_call ho1 hq4
      have hbq9 : Below wq.heap.size wq w9 := bl_call hb1 hq4
      have hblk := hra.blk
      have hs16 := hq1.size
      have hs6 := hb6.size
      have hs67 := bl_call hbl6 hb7
      have hs67' := hs67.size
      have hz15 : w1.heap.size ≤ w6.heap.size := Nat.le_trans hs16 hs6
      have hz17 : w1.heap.size ≤ w7.heap.size := Nat.le_trans hz15 hs67'
      clear hx6 hbl6 hx7 hy7 hbl7 hq1 hq2 hq3 hq4 hs16 hs6 hs67 hs67'
      go_wp2_with (fail)
      go_loopg [22] M.length (fun gk pv wr => ∃ (k : Nat) (Q : List T3), Hid (k + gk = M.length) ∧ pv = .int .i64 (k : Int) ∧ Hid (Q.length = M.length) ∧ wr.ownsRow wq.heap.size 40 3 (.slice A1 M.length c1) M.length (cellsT Q) ∧ Bx wr w6.heap.size 51 #[.int .i64 p, .int .i64 q] ∧ Bx wr w7.heap.size 51 #[.int .i64 p, .int .i64 q] ∧ Below wq.heap.size wq wr)
      case atStart => exact ⟨0, M, by simp [Hid], rfl, rfl, ho9, hx9, hy9, hbq9⟩
      case round =>
        obtain ⟨k, Q, HK5, rfl, HQ, hoR, hxR, hyR, hbR⟩ := hrel
        clear ho9 hx9 hy9
        rcases gk with _ | gi
        · obtain rfl : k = M.length := HK5.out
          obtain ⟨z1, z2, z3, z4⟩ := hxR.two
          obtain ⟨y1, y2, y3, y4⟩ := hyR.two
          have hbR0 := bl_call hb00 hbR
          have HSX := HSL A0 A c0 c wr (hro.later hbR) (hr.later hbR0)
          go_wp2_with (fail)
          refine HSX.out.mono ?_
          rintro e wy ⟨rfl, hby⟩
          have hbRy := bl_call hbR0 hby
          go_wp2_with (fail)
          refine (HK _).out.mono ?_
          rintro e wk ⟨rfl, hbk⟩
          go_wp2_with (fail)
          go_ret
          exact ⟨rfl, bl_call hbRy hbk⟩
        · have hkM : k < M.length := by have := HK5.out; omega
          have hkM' : (k : Int) < (M.length : Int) := by omega
          obtain ⟨g, rfl, hbg, hgl, _, d4, hput⟩ := own_putT (k := k) hoR HQ.out hkM
          obtain ⟨v, d3⟩ : ∃ v, wr.cell? ⟨g, k * 3 + 2, none⟩ = some v := by
            obtain ⟨b', o', he, _, _, _, h2⟩ := (own_rd hoR).1.tri (k := k) (by rw [HQ.out]; exact hkM)
            injection he with he
            injection he with f1 f2
            subst f1 f2
            rw [Nat.zero_add] at h2
            exact ⟨_, h2⟩
          have hg1 : g < w1.heap.size := hblk ⟨g, 0, none⟩ rfl (by intro e; have := congrArg List.length e; rw [cellsT_length] at this; simp at this; omega)
          have hp := hput (-1)
          have hxs := hxR.far (g' := g) (i := k * 3 + 2) (by omega) (.int .i64 (-1))
          have hys := hyR.far (g' := g) (i := k * 3 + 2) (by omega) (.int .i64 (-1))
          have hbs := bl_set hbR (g := g) (i := k * 3 + 2) hbg (.int .i64 (-1))
          have HP := Lib.hid hp
          clear hput hp hoR hxR hyR
          go_wp2_with (fail)
          go_roundg gi
          case rel => exact ⟨k + 1, _, by have := HK5.out; show _ = _; omega, by go_num, by show _ = _; rw [List.length_set]; exact HQ.out, HP.out, hxs, hys, hbs⟩
          case measure => omega
    · have hv' : (validE l != 0) = true := by simpa using hv
      generalize turL l = M at *
      generalize validE l = v at *
      go_enter Try.func11, Try.ntmps11
      go_wp2_with (fail)
      refine (HL _).out.mono ?_
      rintro e w1 ⟨rfl, rfl⟩
      go_wp2_with (at_builtin; refine wpList_append_eq rfl _ _ 22 rfl _ _ _ wq rfl rfl E0.out ?_)
      refine (H1 _ _ _ hro).out.mono ?_
      rintro e w1 ⟨A1, c1, rfl, ho1, hb1⟩
      have hb01 := bl_call hb00 hb1
      go_wp2_with (fail)
      refine (H2 _ (hr.later hb01)).out.mono ?_
      rintro e w2 ⟨A2, c2, rfl, ho2, hb2⟩
      have hb02 := bl_call hb01 hb2
      have hra := (own_rd ho1).1
      have hrb := (own_rd ho2).1
      go_wp2_with (fail)
      refine (HS _ _ _ _ _ (hra.later hb2) hrb).out.mono ?_
      rintro e w3 ⟨rfl, hb3⟩
      have hb03 := bl_call hb02 hb3
      go_wp2_with (fail)
      refine (HK _).out.mono ?_
      rintro e wk ⟨rfl, hbk⟩
      go_wp2_with (fail)
      go_ret
      exact ⟨rfl, bl_call hb03 hbk⟩
end Go.Proofs.Ytiffgaelndajpaa
