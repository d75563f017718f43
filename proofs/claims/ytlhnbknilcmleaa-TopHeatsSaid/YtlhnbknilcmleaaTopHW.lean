/- The walk of the top law of heats. -/
import Derived.Test.YtlhnbknilcmleaaTopHM
import Derived.Test.YtlhnbknilcmleaaOnly
import Derived.Test.YtlhnbknilcmleaaFew
import Derived.Test.YtlhnbknilcmleaaChk
import Derived.Test.YtlhnbknilcmleaaIns
import Derived.Test.YtlhnbknilcmleaaChw
import Derived.Test.YtlhnbknilcmleaaCur
import Derived.Test.YtlhnbknilcmleaaPeak
import Derived.Test.YtlhnbknilcmleaaKnownH
namespace Go.Proofs.Ytlhnbknilcmleaa
open Go.RowKit

theorem own_cap {w : World} {base size n c : Nat} {e : TypeId} {A : Option Addr} {xs : List Value} (h : w.ownsRow base e size (.slice A n c) n xs) : n ≤ c := by
  rcases h.2 with ⟨_, h0⟩ | ⟨g, cap, cur, hv, _, _, h1, _⟩
  · omega
  · injection hv with _ _ h2
    omega
def planP : List T3 := [(0, 0, 3), (2, 0, 0), (0, 0, 2)]
theorem planP_v : validE 1 planP = 0 := by decide
theorem planP_p : peakG 1 planP = 3 := by decide
set_option maxRecDepth 100000 in
set_option maxHeartbeats 8000000 in
theorem topHeats_walk (n : Int) (A : Option Addr) (l : List T3) (c : Nat) (lim : Int) (w : World) (hcap : l.length ≤ c) (_hn : (Lit.int .i64 n).wf = true) (hr : Rd w A (cellsT l)) (_hl : (Lit.int .i64 lim).wf = true) :
    Calls Try.prog 17 #[.int .i64 n, .slice A l.length c, .int .i64 lim] w fun e w' => e = .returned (.bool true) ∧ Below w.heap.size w w' := by
  have hb0 := bl_alloc (Below.refl w.heap.size w) (.cells #[.int .i64 0, .int .i64 0, .int .i64 3, .int .i64 2, .int .i64 0, .int .i64 0, .int .i64 0, .int .i64 0, .int .i64 2] 61)
  have H0 := Peak_c 1 (some ⟨w.heap.size, 0, none⟩) planP 3 (w.alloc (.cells #[.int .i64 0, .int .i64 0, .int .i64 3, .int .i64 2, .int .i64 0, .int .i64 0, .int .i64 0, .int .i64 0, .int .i64 2] 61)) (by decide) (rd_newT w 61 planP)
  rw [planP_v, planP_p] at H0
  have H0 := Lib.hid H0
  have HL := fun w => Lib.hid (long_c A l.length c w)
  by_cases hlong : 100 < l.length
  · rw [decide_eq_true hlong] at HL
    go_enter Try.func17, Try.ntmps17
    go_wp2_with (fail)
    refine H0.out.mono ?_
    rintro e w0 ⟨rfl, hb00⟩
    go_wp2_with (fail)
    refine (HL _).out.mono ?_
    rintro e wl ⟨rfl, rfl⟩
    go_wp2_with (fail)
    go_ret
    exact ⟨rfl, bl_call hb0 hb00⟩
  · rw [decide_eq_false hlong] at HL
    have hlen : l.length ≤ 1000 := by omega
    clear hlong
    by_cases hv : limE n l lim = 0
    · obtain ⟨hval, hl0, hl1⟩ := limE_zero.1 hv
      obtain ⟨⟨hn1, hn4⟩, h20, hb⟩ := validE_zero.1 hval
      have ha := validE_acts hval
      obtain ⟨N, rfl⟩ : ∃ N : Nat, n = N := ⟨n.toNat, by omega⟩
      obtain ⟨i, rfl⟩ : ∃ i : Nat, lim = i := ⟨lim.toNat, by omega⟩
      have HF : fewG N l i = (few i l : Int) := fewG_ok hv
      obtain ⟨f1, f2, f3, f4, f5, f6⟩ := top_facts hv
      obtain ⟨f7, f8⟩ := f5 i rfl
      have F7 := Lib.hid f7
      have F8 := Lib.hid f8
      have F6 := Lib.hid f6
      obtain ⟨a1, a2⟩ := insL_check hv
      obtain ⟨a3, a4⟩ := winL_check hv
      have e1 : insG N l i = insL i l := by rw [insG, if_pos hv]
      have e2 : winsG N l i = winL i l := by rw [winsG, if_pos hv]
      have e3 : hotsG N l i = hotL i l := by rw [hotsG, if_pos hv]
      have e4 : leastG N l = leastTo l l.length := by rw [leastG, if_pos hval]
      have e5 : peakG N l = peakTo l l.length := by rw [peakG, if_pos hval]
      have e6 : curveG N l = curveL l := by rw [curveG, if_pos hval]
      have e7 : fitsG N l i = decide (few i l = 0) := by
        rw [fitsG, hv]
        simp only [decide_true, Bool.true_and]
        exact decide_eq_decide.2 f1.symm
      have hfl : few i l ≤ 20 := by
        have := few_len (lim := (i : Int)) ha l.length (Nat.le_refl _)
        rw [List.take_length] at this
        omega
      have hil : (insL (i : Int) l).length ≤ 1000 := by have := insL_len (lim := (i : Int)) ha; omega
      have hwl : (winL (i : Int) l).length ≤ 1000 := by have := winL_len (lim := (i : Int)) ha; omega
      have hcl : (curveL l).length ≤ 1000 := by have := curveL_len l; omega
      have HSA := Lib.hid (sumF_all (lim := (i : Int)) (n := N) (l := l) (by omega) (by omega) hb)
      have HFA := Lib.hid (farF_all (m := N) (l := l) (by omega) (by omega) hb)
      have HSL := fun k => Lib.hid (sumF_le (lim := (i : Int)) ha k)
      have HO := fun (ion : Nat) w1 h => Lib.hid (Only_c (N : Int) A l c (ion : Int) w1 hlen h)
      have HOE : Hid (∀ ion : Nat, ion < N → onlyE (N : Int) l (ion : Int) = 0 ∧ onlyG (N : Int) l (ion : Int) = onlyL l ion) := fun ion h => by
        rcases onlyE_cases (N : Int) l (ion : Int) with ⟨a, _⟩ | ⟨_, a, _⟩ | ⟨_, _, a, b⟩
        · exact absurd hval a
        · simp [oneB] at a; omega
        · exact ⟨a, b⟩
      have HFE : Hid (∀ ion : Nat, ion < N → limE (N : Int) (onlyL l ion) (i : Int) = 0 ∧ fewG (N : Int) (onlyL l ion) (i : Int) = (few1 i l ion : Int) ∧ validE (N : Int) (onlyL l ion) = 0 ∧ peakG (N : Int) (onlyL l ion) = pkQ l ion l.length) := fun ion h => by
        have hvo : validE (N : Int) (onlyL l ion) = 0 := only_valid hval ion
        have e : limE (N : Int) (onlyL l ion) (i : Int) = 0 := limE_zero.2 ⟨hvo, hl0, hl1⟩
        have hp := (peak_only ha (ion := (ion : Int)) (by omega) (by omega) l.length (Nat.le_refl _)).1
        rw [List.take_length] at hp
        exact ⟨e, by rw [fewG_ok e, onlyL, few_only i l (by omega) (by omega)], hvo, by rw [peakG, if_pos hvo]; exact hp⟩
      have HFW := fun (ion : Nat) B d w1 h => Lib.hid (Fewest_c (N : Int) B (onlyL l ion) d (i : Int) w1 (Nat.le_trans (only_len l ion) hlen) h)
      have HPW := fun (ion : Nat) B d w1 h => Lib.hid (Peak_c (N : Int) B (onlyL l ion) d w1 (Nat.le_trans (only_len l ion) hlen) h)
      have hN4 : N ≤ 4 := by omega
      have C1 := fun w1 h => Lib.hid (Fewest_c (N : Int) A l c (i : Int) w1 hlen h)
      have C2 := fun w1 h => Lib.hid (Insert_c (N : Int) A l c (i : Int) w1 hlen h)
      have C3 := fun w1 h => Lib.hid (Windows_c (N : Int) A l c (i : Int) w1 hlen h)
      have C4 := fun B d w1 h h2 => Lib.hid (CheckInsert_c (N : Int) A l c B (insL (i : Int) l) d (i : Int) w1 hlen hcap hil h h2)
      have C5 := fun B d w1 hd h h2 => Lib.hid (CheckWindows_c (N : Int) A l c (i : Int) B (winL (i : Int) l) d w1 hlen hcap hwl hd h h2)
      have C6 := fun w1 h => Lib.hid (Fits_c (N : Int) A l c (i : Int) w1 hlen h)
      have C7 := fun w1 h => Lib.hid (Hot_c (N : Int) A l c (i : Int) w1 hlen h)
      have C8 := fun w1 h => Lib.hid (Least_c (N : Int) A l c w1 hlen h)
      have C9 := fun w1 h => Lib.hid (Peak_c (N : Int) A l c w1 hlen h)
      have C10 := fun w1 h => Lib.hid (Curve_c (N : Int) A l c w1 hlen h)
      have C11 := fun B d w1 h => Lib.hid (Fewest_c (N : Int) B (insL (i : Int) l) d (i : Int) w1 hil h)
      have g11 : (insL (i : Int) l).length ≤ 20 → fewG (N : Int) (insL (i : Int) l) (i : Int) = 0 ∧ limE (N : Int) (insL (i : Int) l) (i : Int) = 0 := fun h => by
        obtain ⟨x1, x2⟩ := f6 h
        exact ⟨by rw [fewG_ok x1, x2]; rfl, x1⟩
      have G11 := Lib.hid g11
      rw [hv, HF] at C1
      rw [hv, e1] at C2
      rw [hv, e2] at C3
      rw [a1, a2] at C4
      rw [a3, a4] at C5
      rw [hv, e7] at C6
      rw [hv, e3] at C7
      rw [hval, e4] at C8
      rw [hval, e5] at C9
      rw [hval, e6] at C10
      have q1 : (hotL (i : Int) l).length = 0 ↔ few i l = 0 := by rw [f1, List.length_eq_zero_iff]
      have q2 : leastTo l l.length ≤ (i : Int) ↔ few i l = 0 := by rw [f1, f2]
      clear f1 f2 f5 f6 f7 f8 a1 a2 a3 a4 e1 e2 e3 e4 e5 e6 e7 hv hval HF hb F6 g11
      generalize hgI : insL (i : Int) l = I at *
      generalize hgW : winL (i : Int) l = WL at *
      generalize hgH : hotL (i : Int) l = Hs at *
      generalize hgC : curveL l = Cv at *
      generalize hgL : leastTo l l.length = le at *
      clear hgI hgW hgH hgC hgL
      generalize peakTo l l.length = pk at *
      generalize few (i : Int) l = fw at *
      by_cases hz : fw = 0
      · have hq1 : ((Hs.length : Int) == 0) = true := by have := q1.2 hz; simpa using this
        have hq2 := q2.2 hz
        subst hz
        clear q1 q2
        simp only [decide_true, Int.natCast_zero] at C1 C4 C5 C6 F7 HSA
        by_cases hi : i < Cv.length
        · have hi' : (i : Int) < (Cv.length : Int) := by omega
          by_cases h11 : I.length ≤ 20
          · obtain ⟨g1, g2⟩ := G11.out h11
            have h11' : (I.length : Int) ≤ 20 := by omega
            rw [g1, g2] at C11
            clear g1 g2 G11
            go_enter Try.func17, Try.ntmps17
            go_wp2_with (fail)
            refine H0.out.mono ?_
            rintro e w0 ⟨rfl, hb00⟩
            go_wp2_with (fail)
            refine (HL _).out.mono ?_
            rintro e wl ⟨rfl, rfl⟩
            have hbA := bl_call hb0 hb00
            go_wp2_with (fail)
            refine (C1 _ (hr.later hbA)).out.mono ?_
            rintro e w1 ⟨rfl, hb1⟩
            have hbB := bl_call hbA hb1
            go_wp2_with (fail)
            refine (C2 _ (hr.later hbB)).out.mono ?_
            rintro e w2 ⟨A2, c2, rfl, ho2, hb2⟩
            have hbC := bl_call hbB hb2
            go_wp2_with (fail)
            refine (C3 _ (hr.later hbC)).out.mono ?_
            rintro e w3 ⟨A3, c3, rfl, ho3, hb3⟩
            have hbD := bl_call hbC hb3
            go_wp2_with (fail)
            refine (C4 A2 c2 _ (hr.later hbD) ((own_rd ho2).1.later hb3)).out.mono ?_
            rintro e w4 ⟨rfl, hb4⟩
            have hbE := bl_call hbD hb4
            go_wp2_with (fail)
            refine (C5 A3 c3 _ (own_cap ho3) (hr.later hbE) ((own_rd ho3).1.later hb4)).out.mono ?_
            rintro e w5 ⟨rfl, hb5⟩
            have hbF := bl_call hbE hb5
            go_wp2_with (fail)
            refine (C6 _ (hr.later hbF)).out.mono ?_
            rintro e w6 ⟨rfl, hb6⟩
            have hbG := bl_call hbF hb6
            go_wp2_with (fail)
            refine (C7 _ (hr.later hbG)).out.mono ?_
            rintro e w7 ⟨A7, c7, rfl, ho7, hb7⟩
            have hbH := bl_call hbG hb7
            go_wp2_with (fail)
            refine (C8 _ (hr.later hbH)).out.mono ?_
            rintro e w8 ⟨rfl, hb8⟩
            have hbI := bl_call hbH hb8
            go_wp2_with (fail)
            refine (C9 _ (hr.later hbI)).out.mono ?_
            rintro e w9 ⟨rfl, hb9⟩
            have hbJ := bl_call hbI hb9
            go_wp2_with (fail)
            refine (C10 _ (hr.later hbJ)).out.mono ?_
            rintro e w10 ⟨A10, c10, rfl, ho10, hb10⟩
            have hbK := bl_call hbJ hb10
            have hb3K := bl_call (bl_call (bl_call (bl_call (bl_call (bl_call (bl_call hb3 hb4) hb5) hb6) hb7) hb8) hb9) hb10
            have hrI := (own_rd ho2).1.later hb3K
            obtain ⟨b, o, rfl, hbl, hcv⟩ := (own_rd ho10).1.at_ (k := i) (by rw [ints_length]; exact hi)
            have hcell := hcv i _ (ints_get hi)
            rw [F7.out hi] at hcell
            clear hcv
            clear C1 C2 C3 C4 C5 C6 C7 C8 C9 C10 ho2 ho3 ho7 ho10 H0 HL
            go_wp2_with (fail)
            refine (C11 A2 c2 _ hrI).out.mono ?_
            rintro e w11 ⟨rfl, hb11⟩
            have hbL := bl_call hbK hb11
            go_wp2_with (fail)
            go_loopg [28, 29, 30] N (fun gk sv fv iv wr => ∃ j : Nat, Hid (j + gk = N) ∧ iv = .int .i64 (j : Int) ∧ sv = .int .i64 ((sumF (i : Int) l j : Nat) : Int) ∧ fv = .int .i64 (farF l j) ∧ Below w.heap.size w wr)
            case atStart => exact ⟨0, by simp [Hid], rfl, rfl, rfl, hbL⟩
            case round =>
              obtain ⟨j, HI, rfl, rfl, rfl, hbr⟩ := hrel
              rcases gk with _ | gi
              · obtain rfl : j = N := HI.out
                rw [HSA.out, HFA.out]
                go_wp2_with (fail)
                go_ret
                exact ⟨rfl, hbr⟩
              · have hiN : j < N := by have := HI.out; omega
                have hiN' : (j : Int) < (N : Int) := by omega
                have hi4 : (j : Int) < 4 := by omega
                obtain ⟨e1, e2⟩ := HOE.out j hiN
                obtain ⟨e3, e4, e5, e6⟩ := HFE.out j hiN
                have HO1 := fun w1 h => HO j w1 h
                have HF1 := fun B d w1 h => HFW j B d w1 h
                have HP1 := fun B d w1 h => HPW j B d w1 h
                rw [e1, e2] at HO1
                rw [e3, e4] at HF1
                rw [e5, e6] at HP1
                have hs := (HSL j).out
                have hs2 : sumF (i : Int) l j ≤ 80 := by
                  have : j * l.length ≤ 4 * 20 := Nat.mul_le_mul (by omega) h20
                  omega
                have hsn : sumF (i : Int) l (j + 1) = sumF (i : Int) l j + few1 (i : Int) l j := rfl
                have HSN := Lib.hid hsn
                have HFN : Hid (farF l (j + 1) = max (farF l j) (pkQ l (j : Int) l.length)) := rfl
                have hf1 : few1 (i : Int) l j ≤ 20 := by have := (gr_range ha (i : Int) (j : Int)).2.2; rw [few1]; omega
                clear hsn e1 e2 e3 e4 e5 e6 HO HFW HPW hs
                generalize few1 (i : Int) l (j : Int) = f1 at *
                generalize sumF (i : Int) l j = s1 at *
                generalize farF l j = fr at *
                generalize pkQ l (j : Int) l.length = pq at *
                generalize onlyL l (j : Int) = O1 at *
                go_wp2_with (fail)
                refine (HO1 _ (hr.later hbr)).out.mono ?_
                rintro e w12 ⟨A12, c12, rfl, ho12, hb12⟩
                go_wp2_with (fail)
                refine (HF1 _ _ _ (own_rd ho12).1).out.mono ?_
                rintro e w13 ⟨rfl, hb13⟩
                go_wp2_with (fail)
                refine (HP1 _ _ _ ((own_rd ho12).1.later hb13)).out.mono ?_
                rintro e w14 ⟨rfl, hb14⟩
                go_wp2_with (fail)
                all_goals
                  go_roundg gi
                  case rel => exact ⟨j + 1, by have := HI.out; show _ = _; omega, by go_num, by rw [HSN.out]; go_num, by rw [HFN.out]; congr 1; omega, bl_call (bl_call (bl_call hbr hb12) hb13) hb14⟩
                  case measure => omega
          · have h11' : ¬ (I.length : Int) ≤ 20 := by omega
            clear G11 C11
            go_enter Try.func17, Try.ntmps17
            go_wp2_with (fail)
            refine H0.out.mono ?_
            rintro e w0 ⟨rfl, hb00⟩
            go_wp2_with (fail)
            refine (HL _).out.mono ?_
            rintro e wl ⟨rfl, rfl⟩
            have hbA := bl_call hb0 hb00
            go_wp2_with (fail)
            refine (C1 _ (hr.later hbA)).out.mono ?_
            rintro e w1 ⟨rfl, hb1⟩
            have hbB := bl_call hbA hb1
            go_wp2_with (fail)
            refine (C2 _ (hr.later hbB)).out.mono ?_
            rintro e w2 ⟨A2, c2, rfl, ho2, hb2⟩
            have hbC := bl_call hbB hb2
            go_wp2_with (fail)
            refine (C3 _ (hr.later hbC)).out.mono ?_
            rintro e w3 ⟨A3, c3, rfl, ho3, hb3⟩
            have hbD := bl_call hbC hb3
            go_wp2_with (fail)
            refine (C4 A2 c2 _ (hr.later hbD) ((own_rd ho2).1.later hb3)).out.mono ?_
            rintro e w4 ⟨rfl, hb4⟩
            have hbE := bl_call hbD hb4
            go_wp2_with (fail)
            refine (C5 A3 c3 _ (own_cap ho3) (hr.later hbE) ((own_rd ho3).1.later hb4)).out.mono ?_
            rintro e w5 ⟨rfl, hb5⟩
            have hbF := bl_call hbE hb5
            go_wp2_with (fail)
            refine (C6 _ (hr.later hbF)).out.mono ?_
            rintro e w6 ⟨rfl, hb6⟩
            have hbG := bl_call hbF hb6
            go_wp2_with (fail)
            refine (C7 _ (hr.later hbG)).out.mono ?_
            rintro e w7 ⟨A7, c7, rfl, ho7, hb7⟩
            have hbH := bl_call hbG hb7
            go_wp2_with (fail)
            refine (C8 _ (hr.later hbH)).out.mono ?_
            rintro e w8 ⟨rfl, hb8⟩
            have hbI := bl_call hbH hb8
            go_wp2_with (fail)
            refine (C9 _ (hr.later hbI)).out.mono ?_
            rintro e w9 ⟨rfl, hb9⟩
            have hbJ := bl_call hbI hb9
            go_wp2_with (fail)
            refine (C10 _ (hr.later hbJ)).out.mono ?_
            rintro e w10 ⟨A10, c10, rfl, ho10, hb10⟩
            have hbK := bl_call hbJ hb10
            have hb3K := bl_call (bl_call (bl_call (bl_call (bl_call (bl_call (bl_call hb3 hb4) hb5) hb6) hb7) hb8) hb9) hb10
            have hrI := (own_rd ho2).1.later hb3K
            obtain ⟨b, o, rfl, hbl, hcv⟩ := (own_rd ho10).1.at_ (k := i) (by rw [ints_length]; exact hi)
            have hcell := hcv i _ (ints_get hi)
            rw [F7.out hi] at hcell
            clear hcv
            clear C1 C2 C3 C4 C5 C6 C7 C8 C9 C10 ho2 ho3 ho7 ho10 H0 HL
            go_wp2_with (fail)
            go_loopg [28, 29, 30] N (fun gk sv fv iv wr => ∃ j : Nat, Hid (j + gk = N) ∧ iv = .int .i64 (j : Int) ∧ sv = .int .i64 ((sumF (i : Int) l j : Nat) : Int) ∧ fv = .int .i64 (farF l j) ∧ Below w.heap.size w wr)
            case atStart => exact ⟨0, by simp [Hid], rfl, rfl, rfl, hbK⟩
            case round =>
              obtain ⟨j, HI, rfl, rfl, rfl, hbr⟩ := hrel
              rcases gk with _ | gi
              · obtain rfl : j = N := HI.out
                rw [HSA.out, HFA.out]
                go_wp2_with (fail)
                go_ret
                exact ⟨rfl, hbr⟩
              · have hiN : j < N := by have := HI.out; omega
                have hiN' : (j : Int) < (N : Int) := by omega
                have hi4 : (j : Int) < 4 := by omega
                obtain ⟨e1, e2⟩ := HOE.out j hiN
                obtain ⟨e3, e4, e5, e6⟩ := HFE.out j hiN
                have HO1 := fun w1 h => HO j w1 h
                have HF1 := fun B d w1 h => HFW j B d w1 h
                have HP1 := fun B d w1 h => HPW j B d w1 h
                rw [e1, e2] at HO1
                rw [e3, e4] at HF1
                rw [e5, e6] at HP1
                have hs := (HSL j).out
                have hs2 : sumF (i : Int) l j ≤ 80 := by
                  have : j * l.length ≤ 4 * 20 := Nat.mul_le_mul (by omega) h20
                  omega
                have hsn : sumF (i : Int) l (j + 1) = sumF (i : Int) l j + few1 (i : Int) l j := rfl
                have HSN := Lib.hid hsn
                have HFN : Hid (farF l (j + 1) = max (farF l j) (pkQ l (j : Int) l.length)) := rfl
                have hf1 : few1 (i : Int) l j ≤ 20 := by have := (gr_range ha (i : Int) (j : Int)).2.2; rw [few1]; omega
                clear hsn e1 e2 e3 e4 e5 e6 HO HFW HPW hs
                generalize few1 (i : Int) l (j : Int) = f1 at *
                generalize sumF (i : Int) l j = s1 at *
                generalize farF l j = fr at *
                generalize pkQ l (j : Int) l.length = pq at *
                generalize onlyL l (j : Int) = O1 at *
                go_wp2_with (fail)
                refine (HO1 _ (hr.later hbr)).out.mono ?_
                rintro e w12 ⟨A12, c12, rfl, ho12, hb12⟩
                go_wp2_with (fail)
                refine (HF1 _ _ _ (own_rd ho12).1).out.mono ?_
                rintro e w13 ⟨rfl, hb13⟩
                go_wp2_with (fail)
                refine (HP1 _ _ _ ((own_rd ho12).1.later hb13)).out.mono ?_
                rintro e w14 ⟨rfl, hb14⟩
                go_wp2_with (fail)
                all_goals
                  go_roundg gi
                  case rel => exact ⟨j + 1, by have := HI.out; show _ = _; omega, by go_num, by rw [HSN.out]; go_num, by rw [HFN.out]; congr 1; omega, bl_call (bl_call (bl_call hbr hb12) hb13) hb14⟩
                  case measure => omega
        · have hi' : ¬ (i : Int) < (Cv.length : Int) := by omega
          by_cases h11 : I.length ≤ 20
          · obtain ⟨g1, g2⟩ := G11.out h11
            have h11' : (I.length : Int) ≤ 20 := by omega
            rw [g1, g2] at C11
            clear g1 g2 G11
            go_enter Try.func17, Try.ntmps17
            go_wp2_with (fail)
            refine H0.out.mono ?_
            rintro e w0 ⟨rfl, hb00⟩
            go_wp2_with (fail)
            refine (HL _).out.mono ?_
            rintro e wl ⟨rfl, rfl⟩
            have hbA := bl_call hb0 hb00
            go_wp2_with (fail)
            refine (C1 _ (hr.later hbA)).out.mono ?_
            rintro e w1 ⟨rfl, hb1⟩
            have hbB := bl_call hbA hb1
            go_wp2_with (fail)
            refine (C2 _ (hr.later hbB)).out.mono ?_
            rintro e w2 ⟨A2, c2, rfl, ho2, hb2⟩
            have hbC := bl_call hbB hb2
            go_wp2_with (fail)
            refine (C3 _ (hr.later hbC)).out.mono ?_
            rintro e w3 ⟨A3, c3, rfl, ho3, hb3⟩
            have hbD := bl_call hbC hb3
            go_wp2_with (fail)
            refine (C4 A2 c2 _ (hr.later hbD) ((own_rd ho2).1.later hb3)).out.mono ?_
            rintro e w4 ⟨rfl, hb4⟩
            have hbE := bl_call hbD hb4
            go_wp2_with (fail)
            refine (C5 A3 c3 _ (own_cap ho3) (hr.later hbE) ((own_rd ho3).1.later hb4)).out.mono ?_
            rintro e w5 ⟨rfl, hb5⟩
            have hbF := bl_call hbE hb5
            go_wp2_with (fail)
            refine (C6 _ (hr.later hbF)).out.mono ?_
            rintro e w6 ⟨rfl, hb6⟩
            have hbG := bl_call hbF hb6
            go_wp2_with (fail)
            refine (C7 _ (hr.later hbG)).out.mono ?_
            rintro e w7 ⟨A7, c7, rfl, ho7, hb7⟩
            have hbH := bl_call hbG hb7
            go_wp2_with (fail)
            refine (C8 _ (hr.later hbH)).out.mono ?_
            rintro e w8 ⟨rfl, hb8⟩
            have hbI := bl_call hbH hb8
            go_wp2_with (fail)
            refine (C9 _ (hr.later hbI)).out.mono ?_
            rintro e w9 ⟨rfl, hb9⟩
            have hbJ := bl_call hbI hb9
            go_wp2_with (fail)
            refine (C10 _ (hr.later hbJ)).out.mono ?_
            rintro e w10 ⟨A10, c10, rfl, ho10, hb10⟩
            have hbK := bl_call hbJ hb10
            have hb3K := bl_call (bl_call (bl_call (bl_call (bl_call (bl_call (bl_call hb3 hb4) hb5) hb6) hb7) hb8) hb9) hb10
            have hrI := (own_rd ho2).1.later hb3K
            clear C1 C2 C3 C4 C5 C6 C7 C8 C9 C10 ho2 ho3 ho7 ho10 H0 HL
            go_wp2_with (fail)
            refine (C11 A2 c2 _ hrI).out.mono ?_
            rintro e w11 ⟨rfl, hb11⟩
            have hbL := bl_call hbK hb11
            go_wp2_with (fail)
            go_loopg [28, 29, 30] N (fun gk sv fv iv wr => ∃ j : Nat, Hid (j + gk = N) ∧ iv = .int .i64 (j : Int) ∧ sv = .int .i64 ((sumF (i : Int) l j : Nat) : Int) ∧ fv = .int .i64 (farF l j) ∧ Below w.heap.size w wr)
            case atStart => exact ⟨0, by simp [Hid], rfl, rfl, rfl, hbL⟩
            case round =>
              obtain ⟨j, HI, rfl, rfl, rfl, hbr⟩ := hrel
              rcases gk with _ | gi
              · obtain rfl : j = N := HI.out
                rw [HSA.out, HFA.out]
                go_wp2_with (fail)
                go_ret
                exact ⟨rfl, hbr⟩
              · have hiN : j < N := by have := HI.out; omega
                have hiN' : (j : Int) < (N : Int) := by omega
                have hi4 : (j : Int) < 4 := by omega
                obtain ⟨e1, e2⟩ := HOE.out j hiN
                obtain ⟨e3, e4, e5, e6⟩ := HFE.out j hiN
                have HO1 := fun w1 h => HO j w1 h
                have HF1 := fun B d w1 h => HFW j B d w1 h
                have HP1 := fun B d w1 h => HPW j B d w1 h
                rw [e1, e2] at HO1
                rw [e3, e4] at HF1
                rw [e5, e6] at HP1
                have hs := (HSL j).out
                have hs2 : sumF (i : Int) l j ≤ 80 := by
                  have : j * l.length ≤ 4 * 20 := Nat.mul_le_mul (by omega) h20
                  omega
                have hsn : sumF (i : Int) l (j + 1) = sumF (i : Int) l j + few1 (i : Int) l j := rfl
                have HSN := Lib.hid hsn
                have HFN : Hid (farF l (j + 1) = max (farF l j) (pkQ l (j : Int) l.length)) := rfl
                have hf1 : few1 (i : Int) l j ≤ 20 := by have := (gr_range ha (i : Int) (j : Int)).2.2; rw [few1]; omega
                clear hsn e1 e2 e3 e4 e5 e6 HO HFW HPW hs
                generalize few1 (i : Int) l (j : Int) = f1 at *
                generalize sumF (i : Int) l j = s1 at *
                generalize farF l j = fr at *
                generalize pkQ l (j : Int) l.length = pq at *
                generalize onlyL l (j : Int) = O1 at *
                go_wp2_with (fail)
                refine (HO1 _ (hr.later hbr)).out.mono ?_
                rintro e w12 ⟨A12, c12, rfl, ho12, hb12⟩
                go_wp2_with (fail)
                refine (HF1 _ _ _ (own_rd ho12).1).out.mono ?_
                rintro e w13 ⟨rfl, hb13⟩
                go_wp2_with (fail)
                refine (HP1 _ _ _ ((own_rd ho12).1.later hb13)).out.mono ?_
                rintro e w14 ⟨rfl, hb14⟩
                go_wp2_with (fail)
                all_goals
                  go_roundg gi
                  case rel => exact ⟨j + 1, by have := HI.out; show _ = _; omega, by go_num, by rw [HSN.out]; go_num, by rw [HFN.out]; congr 1; omega, bl_call (bl_call (bl_call hbr hb12) hb13) hb14⟩
                  case measure => omega
          · have h11' : ¬ (I.length : Int) ≤ 20 := by omega
            clear G11 C11
            go_enter Try.func17, Try.ntmps17
            go_wp2_with (fail)
            refine H0.out.mono ?_
            rintro e w0 ⟨rfl, hb00⟩
            go_wp2_with (fail)
            refine (HL _).out.mono ?_
            rintro e wl ⟨rfl, rfl⟩
            have hbA := bl_call hb0 hb00
            go_wp2_with (fail)
            refine (C1 _ (hr.later hbA)).out.mono ?_
            rintro e w1 ⟨rfl, hb1⟩
            have hbB := bl_call hbA hb1
            go_wp2_with (fail)
            refine (C2 _ (hr.later hbB)).out.mono ?_
            rintro e w2 ⟨A2, c2, rfl, ho2, hb2⟩
            have hbC := bl_call hbB hb2
            go_wp2_with (fail)
            refine (C3 _ (hr.later hbC)).out.mono ?_
            rintro e w3 ⟨A3, c3, rfl, ho3, hb3⟩
            have hbD := bl_call hbC hb3
            go_wp2_with (fail)
            refine (C4 A2 c2 _ (hr.later hbD) ((own_rd ho2).1.later hb3)).out.mono ?_
            rintro e w4 ⟨rfl, hb4⟩
            have hbE := bl_call hbD hb4
            go_wp2_with (fail)
            refine (C5 A3 c3 _ (own_cap ho3) (hr.later hbE) ((own_rd ho3).1.later hb4)).out.mono ?_
            rintro e w5 ⟨rfl, hb5⟩
            have hbF := bl_call hbE hb5
            go_wp2_with (fail)
            refine (C6 _ (hr.later hbF)).out.mono ?_
            rintro e w6 ⟨rfl, hb6⟩
            have hbG := bl_call hbF hb6
            go_wp2_with (fail)
            refine (C7 _ (hr.later hbG)).out.mono ?_
            rintro e w7 ⟨A7, c7, rfl, ho7, hb7⟩
            have hbH := bl_call hbG hb7
            go_wp2_with (fail)
            refine (C8 _ (hr.later hbH)).out.mono ?_
            rintro e w8 ⟨rfl, hb8⟩
            have hbI := bl_call hbH hb8
            go_wp2_with (fail)
            refine (C9 _ (hr.later hbI)).out.mono ?_
            rintro e w9 ⟨rfl, hb9⟩
            have hbJ := bl_call hbI hb9
            go_wp2_with (fail)
            refine (C10 _ (hr.later hbJ)).out.mono ?_
            rintro e w10 ⟨A10, c10, rfl, ho10, hb10⟩
            have hbK := bl_call hbJ hb10
            have hb3K := bl_call (bl_call (bl_call (bl_call (bl_call (bl_call (bl_call hb3 hb4) hb5) hb6) hb7) hb8) hb9) hb10
            have hrI := (own_rd ho2).1.later hb3K
            clear C1 C2 C3 C4 C5 C6 C7 C8 C9 C10 ho2 ho3 ho7 ho10 H0 HL
            go_wp2_with (fail)
            go_loopg [28, 29, 30] N (fun gk sv fv iv wr => ∃ j : Nat, Hid (j + gk = N) ∧ iv = .int .i64 (j : Int) ∧ sv = .int .i64 ((sumF (i : Int) l j : Nat) : Int) ∧ fv = .int .i64 (farF l j) ∧ Below w.heap.size w wr)
            case atStart => exact ⟨0, by simp [Hid], rfl, rfl, rfl, hbK⟩
            case round =>
              obtain ⟨j, HI, rfl, rfl, rfl, hbr⟩ := hrel
              rcases gk with _ | gi
              · obtain rfl : j = N := HI.out
                rw [HSA.out, HFA.out]
                go_wp2_with (fail)
                go_ret
                exact ⟨rfl, hbr⟩
              · have hiN : j < N := by have := HI.out; omega
                have hiN' : (j : Int) < (N : Int) := by omega
                have hi4 : (j : Int) < 4 := by omega
                obtain ⟨e1, e2⟩ := HOE.out j hiN
                obtain ⟨e3, e4, e5, e6⟩ := HFE.out j hiN
                have HO1 := fun w1 h => HO j w1 h
                have HF1 := fun B d w1 h => HFW j B d w1 h
                have HP1 := fun B d w1 h => HPW j B d w1 h
                rw [e1, e2] at HO1
                rw [e3, e4] at HF1
                rw [e5, e6] at HP1
                have hs := (HSL j).out
                have hs2 : sumF (i : Int) l j ≤ 80 := by
                  have : j * l.length ≤ 4 * 20 := Nat.mul_le_mul (by omega) h20
                  omega
                have hsn : sumF (i : Int) l (j + 1) = sumF (i : Int) l j + few1 (i : Int) l j := rfl
                have HSN := Lib.hid hsn
                have HFN : Hid (farF l (j + 1) = max (farF l j) (pkQ l (j : Int) l.length)) := rfl
                have hf1 : few1 (i : Int) l j ≤ 20 := by have := (gr_range ha (i : Int) (j : Int)).2.2; rw [few1]; omega
                clear hsn e1 e2 e3 e4 e5 e6 HO HFW HPW hs
                generalize few1 (i : Int) l (j : Int) = f1 at *
                generalize sumF (i : Int) l j = s1 at *
                generalize farF l j = fr at *
                generalize pkQ l (j : Int) l.length = pq at *
                generalize onlyL l (j : Int) = O1 at *
                go_wp2_with (fail)
                refine (HO1 _ (hr.later hbr)).out.mono ?_
                rintro e w12 ⟨A12, c12, rfl, ho12, hb12⟩
                go_wp2_with (fail)
                refine (HF1 _ _ _ (own_rd ho12).1).out.mono ?_
                rintro e w13 ⟨rfl, hb13⟩
                go_wp2_with (fail)
                refine (HP1 _ _ _ ((own_rd ho12).1.later hb13)).out.mono ?_
                rintro e w14 ⟨rfl, hb14⟩
                go_wp2_with (fail)
                all_goals
                  go_roundg gi
                  case rel => exact ⟨j + 1, by have := HI.out; show _ = _; omega, by go_num, by rw [HSN.out]; go_num, by rw [HFN.out]; congr 1; omega, bl_call (bl_call (bl_call hbr hb12) hb13) hb14⟩
                  case measure => omega
      · have hi : i < Cv.length := by
          rcases Nat.lt_or_ge i Cv.length with x | x
          · exact x
          · exact absurd (F8.out x) hz
        have hi' : (i : Int) < (Cv.length : Int) := by omega
        have hq1 : ((Hs.length : Int) == 0) = false := by have := fun x => hz (q1.1 x); simpa using this
        have hq2 : ¬ le ≤ (i : Int) := fun x => hz (q2.1 x)
        have hq3 : ((fw : Int) == 0) = false := by simpa using hz
        have hq4 : decide (fw = 0) = false := by simpa using hz
        rw [hq4] at C6
        have HZ := Lib.hid hz
        clear q1 q2 hq4 hz
        by_cases h11 : I.length ≤ 20
        · obtain ⟨g1, g2⟩ := G11.out h11
          have h11' : (I.length : Int) ≤ 20 := by omega
          rw [g1, g2] at C11
          clear g1 g2 G11
          go_enter Try.func17, Try.ntmps17
          go_wp2_with (fail)
          refine H0.out.mono ?_
          rintro e w0 ⟨rfl, hb00⟩
          go_wp2_with (fail)
          refine (HL _).out.mono ?_
          rintro e wl ⟨rfl, rfl⟩
          have hbA := bl_call hb0 hb00
          go_wp2_with (fail)
          refine (C1 _ (hr.later hbA)).out.mono ?_
          rintro e w1 ⟨rfl, hb1⟩
          have hbB := bl_call hbA hb1
          go_wp2_with (fail)
          refine (C2 _ (hr.later hbB)).out.mono ?_
          rintro e w2 ⟨A2, c2, rfl, ho2, hb2⟩
          have hbC := bl_call hbB hb2
          go_wp2_with (fail)
          refine (C3 _ (hr.later hbC)).out.mono ?_
          rintro e w3 ⟨A3, c3, rfl, ho3, hb3⟩
          have hbD := bl_call hbC hb3
          go_wp2_with (fail)
          refine (C4 A2 c2 _ (hr.later hbD) ((own_rd ho2).1.later hb3)).out.mono ?_
          rintro e w4 ⟨rfl, hb4⟩
          have hbE := bl_call hbD hb4
          go_wp2_with (fail)
          refine (C5 A3 c3 _ (own_cap ho3) (hr.later hbE) ((own_rd ho3).1.later hb4)).out.mono ?_
          rintro e w5 ⟨rfl, hb5⟩
          have hbF := bl_call hbE hb5
          go_wp2_with (fail)
          refine (C6 _ (hr.later hbF)).out.mono ?_
          rintro e w6 ⟨rfl, hb6⟩
          have hbG := bl_call hbF hb6
          go_wp2_with (fail)
          refine (C7 _ (hr.later hbG)).out.mono ?_
          rintro e w7 ⟨A7, c7, rfl, ho7, hb7⟩
          have hbH := bl_call hbG hb7
          go_wp2_with (fail)
          refine (C8 _ (hr.later hbH)).out.mono ?_
          rintro e w8 ⟨rfl, hb8⟩
          have hbI := bl_call hbH hb8
          go_wp2_with (fail)
          refine (C9 _ (hr.later hbI)).out.mono ?_
          rintro e w9 ⟨rfl, hb9⟩
          have hbJ := bl_call hbI hb9
          go_wp2_with (fail)
          refine (C10 _ (hr.later hbJ)).out.mono ?_
          rintro e w10 ⟨A10, c10, rfl, ho10, hb10⟩
          have hbK := bl_call hbJ hb10
          have hb3K := bl_call (bl_call (bl_call (bl_call (bl_call (bl_call (bl_call hb3 hb4) hb5) hb6) hb7) hb8) hb9) hb10
          have hrI := (own_rd ho2).1.later hb3K
          obtain ⟨b, o, rfl, hbl, hcv⟩ := (own_rd ho10).1.at_ (k := i) (by rw [ints_length]; exact hi)
          have hcell := hcv i _ (ints_get hi)
          rw [F7.out hi] at hcell
          clear hcv
          clear C1 C2 C3 C4 C5 C6 C7 C8 C9 C10 ho2 ho3 ho7 ho10 H0 HL
          go_wp2_with (fail)
          refine (C11 A2 c2 _ hrI).out.mono ?_
          rintro e w11 ⟨rfl, hb11⟩
          have hbL := bl_call hbK hb11
          go_wp2_with (fail)
          go_loopg [28, 29, 30] N (fun gk sv fv iv wr => ∃ j : Nat, Hid (j + gk = N) ∧ iv = .int .i64 (j : Int) ∧ sv = .int .i64 ((sumF (i : Int) l j : Nat) : Int) ∧ fv = .int .i64 (farF l j) ∧ Below w.heap.size w wr)
          case atStart => exact ⟨0, by simp [Hid], rfl, rfl, rfl, hbL⟩
          case round =>
            obtain ⟨j, HI, rfl, rfl, rfl, hbr⟩ := hrel
            rcases gk with _ | gi
            · obtain rfl : j = N := HI.out
              rw [HSA.out, HFA.out]
              go_wp2_with (fail)
              go_ret
              exact ⟨rfl, hbr⟩
            · have hiN : j < N := by have := HI.out; omega
              have hiN' : (j : Int) < (N : Int) := by omega
              have hi4 : (j : Int) < 4 := by omega
              obtain ⟨e1, e2⟩ := HOE.out j hiN
              obtain ⟨e3, e4, e5, e6⟩ := HFE.out j hiN
              have HO1 := fun w1 h => HO j w1 h
              have HF1 := fun B d w1 h => HFW j B d w1 h
              have HP1 := fun B d w1 h => HPW j B d w1 h
              rw [e1, e2] at HO1
              rw [e3, e4] at HF1
              rw [e5, e6] at HP1
              have hs := (HSL j).out
              have hs2 : sumF (i : Int) l j ≤ 80 := by
                have : j * l.length ≤ 4 * 20 := Nat.mul_le_mul (by omega) h20
                omega
              have hsn : sumF (i : Int) l (j + 1) = sumF (i : Int) l j + few1 (i : Int) l j := rfl
              have HSN := Lib.hid hsn
              have HFN : Hid (farF l (j + 1) = max (farF l j) (pkQ l (j : Int) l.length)) := rfl
              have hf1 : few1 (i : Int) l j ≤ 20 := by have := (gr_range ha (i : Int) (j : Int)).2.2; rw [few1]; omega
              clear hsn e1 e2 e3 e4 e5 e6 HO HFW HPW hs
              generalize few1 (i : Int) l (j : Int) = f1 at *
              generalize sumF (i : Int) l j = s1 at *
              generalize farF l j = fr at *
              generalize pkQ l (j : Int) l.length = pq at *
              generalize onlyL l (j : Int) = O1 at *
              go_wp2_with (fail)
              refine (HO1 _ (hr.later hbr)).out.mono ?_
              rintro e w12 ⟨A12, c12, rfl, ho12, hb12⟩
              go_wp2_with (fail)
              refine (HF1 _ _ _ (own_rd ho12).1).out.mono ?_
              rintro e w13 ⟨rfl, hb13⟩
              go_wp2_with (fail)
              refine (HP1 _ _ _ ((own_rd ho12).1.later hb13)).out.mono ?_
              rintro e w14 ⟨rfl, hb14⟩
              go_wp2_with (fail)
              all_goals
                go_roundg gi
                case rel => exact ⟨j + 1, by have := HI.out; show _ = _; omega, by go_num, by rw [HSN.out]; go_num, by rw [HFN.out]; congr 1; omega, bl_call (bl_call (bl_call hbr hb12) hb13) hb14⟩
                case measure => omega
        · have h11' : ¬ (I.length : Int) ≤ 20 := by omega
          clear G11 C11
          go_enter Try.func17, Try.ntmps17
          go_wp2_with (fail)
          refine H0.out.mono ?_
          rintro e w0 ⟨rfl, hb00⟩
          go_wp2_with (fail)
          refine (HL _).out.mono ?_
          rintro e wl ⟨rfl, rfl⟩
          have hbA := bl_call hb0 hb00
          go_wp2_with (fail)
          refine (C1 _ (hr.later hbA)).out.mono ?_
          rintro e w1 ⟨rfl, hb1⟩
          have hbB := bl_call hbA hb1
          go_wp2_with (fail)
          refine (C2 _ (hr.later hbB)).out.mono ?_
          rintro e w2 ⟨A2, c2, rfl, ho2, hb2⟩
          have hbC := bl_call hbB hb2
          go_wp2_with (fail)
          refine (C3 _ (hr.later hbC)).out.mono ?_
          rintro e w3 ⟨A3, c3, rfl, ho3, hb3⟩
          have hbD := bl_call hbC hb3
          go_wp2_with (fail)
          refine (C4 A2 c2 _ (hr.later hbD) ((own_rd ho2).1.later hb3)).out.mono ?_
          rintro e w4 ⟨rfl, hb4⟩
          have hbE := bl_call hbD hb4
          go_wp2_with (fail)
          refine (C5 A3 c3 _ (own_cap ho3) (hr.later hbE) ((own_rd ho3).1.later hb4)).out.mono ?_
          rintro e w5 ⟨rfl, hb5⟩
          have hbF := bl_call hbE hb5
          go_wp2_with (fail)
          refine (C6 _ (hr.later hbF)).out.mono ?_
          rintro e w6 ⟨rfl, hb6⟩
          have hbG := bl_call hbF hb6
          go_wp2_with (fail)
          refine (C7 _ (hr.later hbG)).out.mono ?_
          rintro e w7 ⟨A7, c7, rfl, ho7, hb7⟩
          have hbH := bl_call hbG hb7
          go_wp2_with (fail)
          refine (C8 _ (hr.later hbH)).out.mono ?_
          rintro e w8 ⟨rfl, hb8⟩
          have hbI := bl_call hbH hb8
          go_wp2_with (fail)
          refine (C9 _ (hr.later hbI)).out.mono ?_
          rintro e w9 ⟨rfl, hb9⟩
          have hbJ := bl_call hbI hb9
          go_wp2_with (fail)
          refine (C10 _ (hr.later hbJ)).out.mono ?_
          rintro e w10 ⟨A10, c10, rfl, ho10, hb10⟩
          have hbK := bl_call hbJ hb10
          have hb3K := bl_call (bl_call (bl_call (bl_call (bl_call (bl_call (bl_call hb3 hb4) hb5) hb6) hb7) hb8) hb9) hb10
          have hrI := (own_rd ho2).1.later hb3K
          obtain ⟨b, o, rfl, hbl, hcv⟩ := (own_rd ho10).1.at_ (k := i) (by rw [ints_length]; exact hi)
          have hcell := hcv i _ (ints_get hi)
          rw [F7.out hi] at hcell
          clear hcv
          clear C1 C2 C3 C4 C5 C6 C7 C8 C9 C10 ho2 ho3 ho7 ho10 H0 HL
          go_wp2_with (fail)
          go_loopg [28, 29, 30] N (fun gk sv fv iv wr => ∃ j : Nat, Hid (j + gk = N) ∧ iv = .int .i64 (j : Int) ∧ sv = .int .i64 ((sumF (i : Int) l j : Nat) : Int) ∧ fv = .int .i64 (farF l j) ∧ Below w.heap.size w wr)
          case atStart => exact ⟨0, by simp [Hid], rfl, rfl, rfl, hbK⟩
          case round =>
            obtain ⟨j, HI, rfl, rfl, rfl, hbr⟩ := hrel
            rcases gk with _ | gi
            · obtain rfl : j = N := HI.out
              rw [HSA.out, HFA.out]
              go_wp2_with (fail)
              go_ret
              exact ⟨rfl, hbr⟩
            · have hiN : j < N := by have := HI.out; omega
              have hiN' : (j : Int) < (N : Int) := by omega
              have hi4 : (j : Int) < 4 := by omega
              obtain ⟨e1, e2⟩ := HOE.out j hiN
              obtain ⟨e3, e4, e5, e6⟩ := HFE.out j hiN
              have HO1 := fun w1 h => HO j w1 h
              have HF1 := fun B d w1 h => HFW j B d w1 h
              have HP1 := fun B d w1 h => HPW j B d w1 h
              rw [e1, e2] at HO1
              rw [e3, e4] at HF1
              rw [e5, e6] at HP1
              have hs := (HSL j).out
              have hs2 : sumF (i : Int) l j ≤ 80 := by
                have : j * l.length ≤ 4 * 20 := Nat.mul_le_mul (by omega) h20
                omega
              have hsn : sumF (i : Int) l (j + 1) = sumF (i : Int) l j + few1 (i : Int) l j := rfl
              have HSN := Lib.hid hsn
              have HFN : Hid (farF l (j + 1) = max (farF l j) (pkQ l (j : Int) l.length)) := rfl
              have hf1 : few1 (i : Int) l j ≤ 20 := by have := (gr_range ha (i : Int) (j : Int)).2.2; rw [few1]; omega
              clear hsn e1 e2 e3 e4 e5 e6 HO HFW HPW hs
              generalize few1 (i : Int) l (j : Int) = f1 at *
              generalize sumF (i : Int) l j = s1 at *
              generalize farF l j = fr at *
              generalize pkQ l (j : Int) l.length = pq at *
              generalize onlyL l (j : Int) = O1 at *
              go_wp2_with (fail)
              refine (HO1 _ (hr.later hbr)).out.mono ?_
              rintro e w12 ⟨A12, c12, rfl, ho12, hb12⟩
              go_wp2_with (fail)
              refine (HF1 _ _ _ (own_rd ho12).1).out.mono ?_
              rintro e w13 ⟨rfl, hb13⟩
              go_wp2_with (fail)
              refine (HP1 _ _ _ ((own_rd ho12).1.later hb13)).out.mono ?_
              rintro e w14 ⟨rfl, hb14⟩
              go_wp2_with (fail)
              all_goals
                go_roundg gi
                case rel => exact ⟨j + 1, by have := HI.out; show _ = _; omega, by go_num, by rw [HSN.out]; go_num, by rw [HFN.out]; congr 1; omega, bl_call (bl_call (bl_call hbr hb12) hb13) hb14⟩
                case measure => omega
    · have hv' : (limE n l lim != 0) = true := by simpa using hv
      have e1 : insG n l lim = [] := by rw [insG, if_neg hv]
      have C1 := fun w1 h => Lib.hid (Fewest_c n A l c lim w1 hlen h)
      have C2 := fun w1 h => Lib.hid (Insert_c n A l c lim w1 hlen h)
      rw [e1] at C2
      clear e1
      generalize fewG n l lim = F at *
      generalize limE n l lim = ev at *
      go_enter Try.func17, Try.ntmps17
      go_wp2_with (fail)
      refine H0.out.mono ?_
      rintro e w0 ⟨rfl, hb00⟩
      go_wp2_with (fail)
      refine (HL _).out.mono ?_
      rintro e wl ⟨rfl, rfl⟩
      have hbA := bl_call hb0 hb00
      go_wp2_with (fail)
      refine (C1 _ (hr.later hbA)).out.mono ?_
      rintro e w1 ⟨rfl, hb1⟩
      have hbB := bl_call hbA hb1
      go_wp2_with (fail)
      refine (C2 _ (hr.later hbB)).out.mono ?_
      rintro e w2 ⟨A2, c2, rfl, ho2, hb2⟩
      go_wp2_with (fail)
      go_ret
      exact ⟨rfl, bl_call hbB hb2⟩
end Go.Proofs.Ytlhnbknilcmleaa
