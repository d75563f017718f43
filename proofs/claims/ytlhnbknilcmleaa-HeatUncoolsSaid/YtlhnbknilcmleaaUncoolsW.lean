/- The walk of the law on plans without their coolings. -/
import Derived.Test.YtlhnbknilcmleaaUnc
import Derived.Test.YtlhnbknilcmleaaFew
import Derived.Test.YtlhnbknilcmleaaKnownH
namespace Go.Proofs.Ytlhnbknilcmleaa
open Go.RowKit

theorem few_bound {n : Int} {l : List T3} {lim : Int} : 0 ≤ fewG n l lim ∧ fewG n l lim ≤ 20 := by
  by_cases h : limE n l lim = 0
  · obtain ⟨h20, ha, _⟩ := limE_len h
    have h2 := few_len (lim := lim) ha l.length (Nat.le_refl _)
    rw [List.take_length] at h2
    rw [fewG_ok h]; omega
  · rw [fewG, if_neg h]; omega
theorem unc_law {n : Int} {l : List T3} {lim : Int} (h : validE n l = 0) (h2 : limE n l lim = 0) : limE n (uncG n l) lim = 0 ∧ fewG n l lim ≤ fewG n (uncG n l) lim ∧ fewG n (uncG n l) lim ≤ fewG n l lim + (l.length : Int) - ((uncG n l).length : Int) := by
  have hl := (limE_zero.1 h2).2
  have hG : uncG n l = uncL l := by rw [uncG, if_pos h]
  rw [hG]
  have e2 : limE n (uncL l) lim = 0 := limE_zero.2 ⟨unc_valid h, hl⟩
  obtain ⟨h3, h4⟩ := unc_few (validE_acts h) lim
  rw [fewG_ok h2, fewG_ok e2]
  exact ⟨e2, by omega, by omega⟩

set_option maxRecDepth 100000 in
set_option maxHeartbeats 8000000 in
theorem heatUncools_walk (n : Int) (A : Option Addr) (l : List T3) (c : Nat) (lim : Int) (w : World) (_hcap : l.length ≤ c) (_hn : (Lit.int .i64 n).wf = true) (hr : Rd w A (cellsT l)) (_hl : (Lit.int .i64 lim).wf = true) :
    Calls Try.prog 15 #[.int .i64 n, .slice A l.length c, .int .i64 lim] w fun e w' => e = .returned (.bool true) ∧ Below w.heap.size w w' := by
  have HL := fun w => Lib.hid (long_c A l.length c w)
  have HK := fun w => Lib.hid (known_c w)
  by_cases hlong : 100 < l.length
  · rw [decide_eq_true hlong] at HL
    go_enter Try.func15, Try.ntmps15
    go_wp2_with (fail)
    refine (HL _).out.mono ?_
    rintro e w1 ⟨rfl, rfl⟩
    go_wp2_with (fail)
    refine (HK _).out.mono ?_
    rintro e w2 ⟨rfl, hb2⟩
    go_wp2_with (fail)
    go_ret
    exact ⟨rfl, hb2⟩
  · rw [decide_eq_false hlong] at HL
    have hlen : l.length ≤ 1000 := by omega
    clear hlong
    obtain ⟨i0, hi, hz0, hz1, hz2⟩ := info_parts act_info
    have hb0 : Below w.heap.size w (w.alloc (.cells #[] 61)) := bl_alloc (Below.refl _ _) _
    have ho0 : (w.alloc (.cells #[] 61)).ownsRow w.heap.size 61 3 (.slice (some ⟨w.heap.size, 0, none⟩) 0 0) 0 (cellsT []) := World.ownsRow_made (e := 61) (size := 3) w #[] 0 (Nat.le_refl _) (by decide) rfl
    obtain ⟨A0, c0, w1, hrun, ho1, hg1⟩ := run_append_rows (P := Try.prog) (w.alloc (.cells #[] 61)) w.heap.size 22 61 i0 _ 3 24 Try.underlying22 hi hz0 hz1 hz2 rfl (by decide) _ 0 (cellsT []) ho0 A l.length c (cellsT l) (by simp) (cellsT_one _) (hr.later hb0) (by unfold maxLen; omega) (by omega) hb0.size
    have E1 := Lib.hid hrun
    have hb1 : Below w.heap.size w w1 := hb0.trans (grown_below ho0 hg1 hb0.size)
    have hs1 : Rd w1 A0 (cellsT l) := (own_rd ho1).1
    have hr1 := hr.later hb1
    clear hrun ho1 hg1 ho0 hb0 hi hz0 hz1 hz2
    try simp only [Nat.zero_add] at E1
    have H1 := Lib.hid (Uncool_c n A0 l c0 w1 hlen hs1)
    have H2 := fun w1 h => Lib.hid (rUncool_c n A l c w1 hlen h)
    have hgl : (uncG n l).length ≤ l.length := uncG_len n l
    have HS := fun A1 A2 c1 c2 w h1 h2 => Lib.hid (same_c A1 A2 (uncG n l) (uncG n l) c1 c2 w (by omega) h1 h2)
    rw [decide_eq_true (rfl : uncG n l = uncG n l)] at HS
    have HS2 := fun w h1 h2 => Lib.hid (same_c A0 A l l c0 c w (by omega) h1 h2)
    rw [decide_eq_true (rfl : l = l)] at HS2
    have H3 := fun w1 h => Lib.hid (Fewest_c n A l c lim w1 hlen h)
    have H4 := fun A1 c1 w1 h => Lib.hid (Fewest_c n A1 (uncG n l) c1 lim w1 (by omega) h)
    obtain ⟨hp0, hp1⟩ := @few_bound n l lim
    obtain ⟨hq0, hq1⟩ := @few_bound n (uncG n l) lim
    have HF := Lib.hid (@unc_law n l lim)
    generalize uncG n l = F at *
    generalize fewG n l lim = p at *
    generalize fewG n F lim = q at *
    generalize validE n l = ev at *
    generalize limE n l lim = lv at *
    generalize limE n F lim = lv2 at *
    by_cases he : ev = 0
    · subst he
      by_cases hg : lv = 0
      · subst hg
        obtain ⟨rfl, e2, e3⟩ := HF.out rfl rfl
        clear HF
        go_enter Try.func15, Try.ntmps15
        go_wp2_with (fail)
        refine (HL _).out.mono ?_
        rintro e wl ⟨rfl, rfl⟩
        go_wp2_with (at_builtin; refine wpList_append_eq rfl _ _ 22 rfl _ _ _ w1 rfl rfl E1.out ?_)
        refine H1.out.mono ?_
        rintro e w2 ⟨A1, c1, rfl, ho2, hb2⟩
        go_wp2_with (fail)
        refine (H2 _ (hr1.later hb2)).out.mono ?_
        rintro e w3 ⟨A2, c2, rfl, ho3, hb3⟩
        have hb23 := bl_call hb2 hb3
        go_wp2_with (fail)
        refine (HS A1 A2 c1 c2 _ ((own_rd ho2).1.later hb3) (own_rd ho3).1).out.mono ?_
        rintro e w4 ⟨rfl, hb4⟩
        have hb24 := bl_call hb23 hb4
        go_wp2_with (fail)
        refine (H3 _ (hr1.later hb24)).out.mono ?_
        rintro e w5 ⟨rfl, hb5⟩
        have hb35 := bl_call (bl_call hb3 hb4) hb5
        go_wp2_with (fail)
        refine (H4 _ _ _ ((own_rd ho2).1.later hb35)).out.mono ?_
        rintro e w6 ⟨rfl, hb6⟩
        have ho6 := own_call ho2 (bl_call hb35 hb6)
        have hb26 := bl_call (bl_call hb24 hb5) hb6
        clear H1 H2 HS H3 H4 ho2 ho3
        go_wp2_with (fail)
        go_loopg [17] F.length (fun gk iv wr => ∃ k : Nat, Hid (k + gk = F.length) ∧ iv = .int .i64 (k : Int) ∧ (∃ M : List T3, M.length = F.length ∧ wr.ownsRow w1.heap.size 61 3 (.slice A1 F.length c1) F.length (cellsT M)) ∧ Below w1.heap.size w1 wr)
        case atStart => exact ⟨0, by simp [Hid], rfl, ⟨F, rfl, ho6⟩, hb26⟩
        case round =>
          obtain ⟨k, HKK, rfl, ⟨M, hM, ho⟩, hb⟩ := hrel
          rcases gk with _ | gi
          · obtain rfl : k = F.length := HKK.out
            go_wp2_with (fail)
            refine (HS2 _ (hs1.later hb) (hr1.later hb)).out.mono ?_
            rintro e w7 ⟨rfl, hb7⟩
            go_wp2_with (fail)
            refine (HK _).out.mono ?_
            rintro e wk ⟨rfl, hbk⟩
            go_wp2_with (fail)
            go_ret
            exact ⟨rfl, bl_call (bl_call (bl_call hb1 hb) hb7) hbk⟩
          · have hkl : k < F.length := by have := HKK.out; omega
            have hkl' : (k : Int) < (F.length : Int) := by omega
            obtain ⟨g, rfl, hbg, hgl2, ⟨d0, d1, d2⟩, d3, d4⟩ := own_putT ho hM hkl
            have HO := Lib.hid (d4 (-1))
            have HML : Hid ((M.set k ((M.getD k t0).1, (M.getD k t0).2.1, -1)).length = F.length) := by show _ = _; rw [List.length_set]; exact hM
            have hbs := bl_set hb (g := g) (i := k * 3 + 2) hbg (.int .i64 (-1))
            generalize M.getD k t0 = x at *
            clear d4 hM
            go_wp2_with (fail)
            go_roundg gi
            case rel => exact ⟨k + 1, by have := HKK.out; show _ = _; omega, by go_num, ⟨_, HML.out, HO.out⟩, hbs⟩
            case measure => omega
      · have hg' : (lv != 0) = true := by simpa using hg
        clear HF
        go_enter Try.func15, Try.ntmps15
        go_wp2_with (fail)
        refine (HL _).out.mono ?_
        rintro e wl ⟨rfl, rfl⟩
        go_wp2_with (at_builtin; refine wpList_append_eq rfl _ _ 22 rfl _ _ _ w1 rfl rfl E1.out ?_)
        refine H1.out.mono ?_
        rintro e w2 ⟨A1, c1, rfl, ho2, hb2⟩
        go_wp2_with (fail)
        refine (H2 _ (hr1.later hb2)).out.mono ?_
        rintro e w3 ⟨A2, c2, rfl, ho3, hb3⟩
        have hb23 := bl_call hb2 hb3
        go_wp2_with (fail)
        refine (HS A1 A2 c1 c2 _ ((own_rd ho2).1.later hb3) (own_rd ho3).1).out.mono ?_
        rintro e w4 ⟨rfl, hb4⟩
        have hb24 := bl_call hb23 hb4
        go_wp2_with (fail)
        refine (H3 _ (hr1.later hb24)).out.mono ?_
        rintro e w5 ⟨rfl, hb5⟩
        have hb35 := bl_call (bl_call hb3 hb4) hb5
        go_wp2_with (fail)
        refine (H4 _ _ _ ((own_rd ho2).1.later hb35)).out.mono ?_
        rintro e w6 ⟨rfl, hb6⟩
        have ho6 := own_call ho2 (bl_call hb35 hb6)
        have hb26 := bl_call (bl_call hb24 hb5) hb6
        clear H1 H2 HS H3 H4 ho2 ho3
        go_wp2_with (fail)
        go_loopg [17] F.length (fun gk iv wr => ∃ k : Nat, Hid (k + gk = F.length) ∧ iv = .int .i64 (k : Int) ∧ (∃ M : List T3, M.length = F.length ∧ wr.ownsRow w1.heap.size 61 3 (.slice A1 F.length c1) F.length (cellsT M)) ∧ Below w1.heap.size w1 wr)
        case atStart => exact ⟨0, by simp [Hid], rfl, ⟨F, rfl, ho6⟩, hb26⟩
        case round =>
          obtain ⟨k, HKK, rfl, ⟨M, hM, ho⟩, hb⟩ := hrel
          rcases gk with _ | gi
          · obtain rfl : k = F.length := HKK.out
            go_wp2_with (fail)
            refine (HS2 _ (hs1.later hb) (hr1.later hb)).out.mono ?_
            rintro e w7 ⟨rfl, hb7⟩
            go_wp2_with (fail)
            refine (HK _).out.mono ?_
            rintro e wk ⟨rfl, hbk⟩
            go_wp2_with (fail)
            go_ret
            exact ⟨rfl, bl_call (bl_call (bl_call hb1 hb) hb7) hbk⟩
          · have hkl : k < F.length := by have := HKK.out; omega
            have hkl' : (k : Int) < (F.length : Int) := by omega
            obtain ⟨g, rfl, hbg, hgl2, ⟨d0, d1, d2⟩, d3, d4⟩ := own_putT ho hM hkl
            have HO := Lib.hid (d4 (-1))
            have HML : Hid ((M.set k ((M.getD k t0).1, (M.getD k t0).2.1, -1)).length = F.length) := by show _ = _; rw [List.length_set]; exact hM
            have hbs := bl_set hb (g := g) (i := k * 3 + 2) hbg (.int .i64 (-1))
            generalize M.getD k t0 = x at *
            clear d4 hM
            go_wp2_with (fail)
            go_roundg gi
            case rel => exact ⟨k + 1, by have := HKK.out; show _ = _; omega, by go_num, ⟨_, HML.out, HO.out⟩, hbs⟩
            case measure => omega
    · have he' : (ev != 0) = true := by simpa using he
      clear HF
      go_enter Try.func15, Try.ntmps15
      go_wp2_with (fail)
      refine (HL _).out.mono ?_
      rintro e wl ⟨rfl, rfl⟩
      go_wp2_with (at_builtin; refine wpList_append_eq rfl _ _ 22 rfl _ _ _ w1 rfl rfl E1.out ?_)
      refine H1.out.mono ?_
      rintro e w2 ⟨A1, c1, rfl, ho2, hb2⟩
      go_wp2_with (fail)
      refine (H2 _ (hr1.later hb2)).out.mono ?_
      rintro e w3 ⟨A2, c2, rfl, ho3, hb3⟩
      have hb23 := bl_call hb2 hb3
      go_wp2_with (fail)
      refine (HS A1 A2 c1 c2 _ ((own_rd ho2).1.later hb3) (own_rd ho3).1).out.mono ?_
      rintro e w4 ⟨rfl, hb4⟩
      have hb24 := bl_call hb23 hb4
      go_wp2_with (fail)
      refine (H3 _ (hr1.later hb24)).out.mono ?_
      rintro e w5 ⟨rfl, hb5⟩
      have hb35 := bl_call (bl_call hb3 hb4) hb5
      go_wp2_with (fail)
      refine (H4 _ _ _ ((own_rd ho2).1.later hb35)).out.mono ?_
      rintro e w6 ⟨rfl, hb6⟩
      have ho6 := own_call ho2 (bl_call hb35 hb6)
      have hb26 := bl_call (bl_call hb24 hb5) hb6
      clear H1 H2 HS H3 H4 ho2 ho3
      go_wp2_with (fail)
      go_loopg [17] F.length (fun gk iv wr => ∃ k : Nat, Hid (k + gk = F.length) ∧ iv = .int .i64 (k : Int) ∧ (∃ M : List T3, M.length = F.length ∧ wr.ownsRow w1.heap.size 61 3 (.slice A1 F.length c1) F.length (cellsT M)) ∧ Below w1.heap.size w1 wr)
      case atStart => exact ⟨0, by simp [Hid], rfl, ⟨F, rfl, ho6⟩, hb26⟩
      case round =>
        obtain ⟨k, HKK, rfl, ⟨M, hM, ho⟩, hb⟩ := hrel
        rcases gk with _ | gi
        · obtain rfl : k = F.length := HKK.out
          go_wp2_with (fail)
          refine (HS2 _ (hs1.later hb) (hr1.later hb)).out.mono ?_
          rintro e w7 ⟨rfl, hb7⟩
          go_wp2_with (fail)
          refine (HK _).out.mono ?_
          rintro e wk ⟨rfl, hbk⟩
          go_wp2_with (fail)
          go_ret
          exact ⟨rfl, bl_call (bl_call (bl_call hb1 hb) hb7) hbk⟩
        · have hkl : k < F.length := by have := HKK.out; omega
          have hkl' : (k : Int) < (F.length : Int) := by omega
          obtain ⟨g, rfl, hbg, hgl2, ⟨d0, d1, d2⟩, d3, d4⟩ := own_putT ho hM hkl
          have HO := Lib.hid (d4 (-1))
          have HML : Hid ((M.set k ((M.getD k t0).1, (M.getD k t0).2.1, -1)).length = F.length) := by show _ = _; rw [List.length_set]; exact hM
          have hbs := bl_set hb (g := g) (i := k * 3 + 2) hbg (.int .i64 (-1))
          generalize M.getD k t0 = x at *
          clear d4 hM
          go_wp2_with (fail)
          go_roundg gi
          case rel => exact ⟨k + 1, by have := HKK.out; show _ = _; omega, by go_num, ⟨_, HML.out, HO.out⟩, hbs⟩
          case measure => omega
end Go.Proofs.Ytlhnbknilcmleaa
