/- The walk of the top law of clocks. -/
import Derived.Test.YtiffgaelndajpaaTopCM
import Derived.Test.YtiffgaelndajpaaKnownK
import Derived.Test.YtiffgaelndajpaaBlg
import Derived.Test.YtiffgaelndajpaaWit
import Derived.Test.YtiffgaelndajpaaChk2
namespace Go.Proofs.Ytiffgaelndajpaa
open Go.RowKit

theorem blg_top : blgL [3, 0, 2] 2 = [1, 0, 0] ∧ blgE [3, 0, 2] 2 = 0 := by decide
set_option maxRecDepth 100000 in
set_option maxHeartbeats 8000000 in
theorem topClocks_walk (A : Option Addr) (l : List T3) (c : Nat) (B : Option Addr) (tb : List Int) (cb : Nat) (by_ : Int) (w : World) (_hcap : l.length ≤ c) (hr : Rd w A (cellsT l)) (hrb : Rd w B (ints tb)) (hby : (Lit.int .i64 by_).wf = true) :
    Calls Try.prog 15 #[.slice A l.length c, .slice B tb.length cb, .int .i64 by_] w fun e w' => e = .returned (.bool true) ∧ Below w.heap.size w w' := by
  have hb0 := bl_alloc (Below.refl w.heap.size w) (.cells #[.int .i64 3, .int .i64 0, .int .i64 2] 3)
  have hr3 := rd_newI w 3 [3, 0, 2]
  have HBL : Hid (∀ (B : Option Addr) (w : World), Rd w B (ints [3, 0, 2]) → Calls Try.prog 42 #[.slice B 3 3, .int .i64 2] w (OutR [1, 0, 0] 0 w)) := fun B w h => by
    have := Backlog_c B [3, 0, 2] 3 2 w (by decide) h
    rw [blg_top.1, blg_top.2] at this
    exact this
  have HSI : Hid (∀ (A B : Option Addr) (c : Nat) (w : World), Rd w A (ints [1, 0, 0]) → Rd w B (ints [1, 0, 0]) → Calls Try.prog 29 #[.slice A 3 c, .slice B 3 3] w fun e w' => e = .returned (.bool true) ∧ Below w.heap.size w w') := fun A B c w h h2 => by
    have := sameInts_c A B [1, 0, 0] [1, 0, 0] c 3 w (by decide) h h2
    rw [decide_eq_true rfl] at this
    exact this
  have HL := fun w => Lib.hid (long_c A l.length c w)
  by_cases hlong : 40 < l.length
  · rw [decide_eq_true hlong] at HL
    clear hlong
    go_enter Try.func15, Try.ntmps15
    go_wp2_with (fail)
    refine (HBL.out _ _ hr3).mono ?_
    rintro e w1 ⟨A1, c1, rfl, hr1, hb1⟩
    have hbn := bl_alloc (Below.refl w1.heap.size w1) (.cells #[.int .i64 1, .int .i64 0, .int .i64 0] 3)
    have hb01n := bl_call (bl_call hb0 hb1) hbn
    go_wp2_with (fail)
    refine (HSI.out _ _ _ _ (hr1.later hbn) (rd_newI w1 3 [1, 0, 0])).mono ?_
    rintro e w2 ⟨rfl, hb2⟩
    have hb02 := bl_call hb01n hb2
    go_wp2_with (fail)
    refine (HL _).out.mono ?_
    rintro e wl ⟨rfl, rfl⟩
    clear hbn hb01n hb2 hb1 hr1 HBL HSI HL hr3
    go_wp2_with (fail)
    go_ret
    exact ⟨rfl, hb02⟩
  · rw [decide_eq_false hlong] at HL
    have hlen : l.length ≤ 1000 := by omega
    by_cases h1000 : 1000 < tb.length
    · have h1000' : (1000 : Int) < (tb.length : Int) := by omega
      clear h1000 hlong
      go_enter Try.func15, Try.ntmps15
      go_wp2_with (fail)
      refine (HBL.out _ _ hr3).mono ?_
      rintro e w1 ⟨A1, c1, rfl, hr1, hb1⟩
      have hbn := bl_alloc (Below.refl w1.heap.size w1) (.cells #[.int .i64 1, .int .i64 0, .int .i64 0] 3)
      have hb01n := bl_call (bl_call hb0 hb1) hbn
      go_wp2_with (fail)
      refine (HSI.out _ _ _ _ (hr1.later hbn) (rd_newI w1 3 [1, 0, 0])).mono ?_
      rintro e w2 ⟨rfl, hb2⟩
      have hb02 := bl_call hb01n hb2
      go_wp2_with (fail)
      refine (HL _).out.mono ?_
      rintro e wl ⟨rfl, rfl⟩
      clear hbn hb01n hb2 hb1 hr1 HBL HSI HL hr3
      go_wp2_with (fail)
      go_ret
      exact ⟨rfl, hb02⟩
    · have h1000' : ¬ (1000 : Int) < (tb.length : Int) := by omega
      have hlb : tb.length ≤ 100000 := by omega
      clear hlong h1000
      have C1 := fun w h => Lib.hid (CanKeep_c A l c w hlen h)
      by_cases hv : validE l = 0
      · obtain ⟨e1, e2, e3, e4, e5, e6, e7, e8, e9, e10, e11⟩ := topc_facts hv
        obtain ⟨n1, n2, n3, n4, n5⟩ := tops_len hv
        have C2 := fun w h => Lib.hid (Table_c A l c w hlen h)
        have C3 := fun w h => Lib.hid (Urgent_c A l c w hlen h)
        have C4 := fun w h => Lib.hid (Late_c A l c w hlen h)
        have C5 := fun w h => Lib.hid (Slack_c A l c w hlen h)
        have C6 := fun w h => Lib.hid (Speed_c A l c w hlen h)
        have C7 := fun w h => Lib.hid (Crowded_c A l c w hlen h)
        have C8 := fun A' c' w h h' => Lib.hid (CheckTable_c A l c A' (tabG l) c' w hlen (by omega) h h')
        have C9 := fun A' c' w h h' => Lib.hid (CheckTable_c A l c A' (urgG l) c' w hlen (by omega) h h')
        have C10 := fun w h => Lib.hid (CheckCrowded_c A l c (cwG l).1 (cwG l).2.1 w hlen h)
        have C11 := fun w h h' => Lib.hid (CheckTable_c A l c B tb cb w hlen hlb h h')
        have C12 := fun w h => Lib.hid (Turn_c A l c w hlen h)
        have C13 := fun A' c' w h => Lib.hid (CanKeep_c A' (turL l) c' w (by omega) h)
        have C14 := fun A' c' w h => Lib.hid (Turn_c A' (turL l) c' w (by omega) h)
        have C15 := fun w h => Lib.hid (Relax_c A l c by_ w hby hlen h)
        have C16 := fun A' c' w (h' : (movL 0 by_ l).length ≤ 1000) h => Lib.hid (Late_c A' (movL 0 by_ l) c' w h' h)
        have HMZ := Lib.hid (fun h hn => relax_facts (b := by_) hv h hn)
        have HLT := Lib.hid n3
        rw [hv] at C1 C2 C3 C4 C5 C6 C7 C12
        rw [e9, e10] at C13
        rw [e9, e11] at C14
        rw [e2] at C7
        rw [e1] at C5
        clear e1 e2 e9 e10 e11 hv n1 n2 n3
        generalize urgG l = U at *
        generalize tabG l = Tb at *
        generalize turL l = T at *
        generalize lateG l = la at *
        generalize slackG l = sl at *
        generalize (speedG l).1 = p at *
        generalize (speedG l).2 = q at *
        generalize (cwG l).1 = ca at *
        generalize (cwG l).2.1 = cbb at *
        generalize movL 0 by_ l = M at *
        generalize movE 0 by_ l = me at *
        cases hc : canG l with
        | true =>
          obtain ⟨q1, q2⟩ := e6 hc
          rw [q1] at C8
          rw [q2] at C9
          rw [hc] at C1 C2 C7 C13 e3 e4 e5
          clear e6 e7 e8 q1 q2 hc C10
          by_cases ht : tabE l tb = 0
          · rw [ht] at C11
            clear ht
            go_enter Try.func15, Try.ntmps15
            go_wp2_with (fail)
            refine (HBL.out _ _ hr3).mono ?_
            rintro e w1 ⟨A1, c1, rfl, hr1, hb1⟩
            have hbn := bl_alloc (Below.refl w1.heap.size w1) (.cells #[.int .i64 1, .int .i64 0, .int .i64 0] 3)
            have hb01n := bl_call (bl_call hb0 hb1) hbn
            go_wp2_with (fail)
            refine (HSI.out _ _ _ _ (hr1.later hbn) (rd_newI w1 3 [1, 0, 0])).mono ?_
            rintro e w2 ⟨rfl, hb2⟩
            have hb02 := bl_call hb01n hb2
            go_wp2_with (fail)
            refine (HL _).out.mono ?_
            rintro e wl ⟨rfl, rfl⟩
            clear hbn hb01n hb2 hb1 hr1 HBL HSI HL hr3
            go_wp2_with (fail)
            refine (C1 _ (hr.later hb02)).out.mono ?_
            rintro e w3 ⟨rfl, hb3⟩
            have hb03 := bl_call hb02 hb3
            go_wp2_with (fail)
            refine (C2 _ (hr.later hb03)).out.mono ?_
            rintro e w4 ⟨A4, c4, rfl, hr4, hb4⟩
            have hb04 := bl_call hb03 hb4
            go_wp2_with (fail)
            refine (C3 _ (hr.later hb04)).out.mono ?_
            rintro e w5 ⟨A5, c5, rfl, hr5, hb5⟩
            have hb05 := bl_call hb04 hb5
            go_wp2_with (fail)
            refine (C4 _ (hr.later hb05)).out.mono ?_
            rintro e w6 ⟨rfl, hb6⟩
            have hb06 := bl_call hb05 hb6
            go_wp2_with (fail)
            refine (C5 _ (hr.later hb06)).out.mono ?_
            rintro e w7 ⟨rfl, hb7⟩
            have hb07 := bl_call hb06 hb7
            go_wp2_with (fail)
            refine (C6 _ (hr.later hb07)).out.mono ?_
            rintro e w8 ⟨rfl, hb8⟩
            have hx8 : Bx (w8.alloc (.cells #[.int .i64 p, .int .i64 q] 51)) w8.heap.size 51 #[.int .i64 p, .int .i64 q] := Bx.new _ _ _
            have hbl8 := bl_alloc (Below.refl w8.heap.size w8) (.cells #[.int .i64 p, .int .i64 q] 51)
            have hb08 := bl_call (bl_call hb07 hb8) hbl8
            go_wp2_with (fail)
            refine (C7 _ (hr.later hb08)).out.mono ?_
            rintro e w9 ⟨rfl, hb9⟩
            have hb09 := bl_call hb08 hb9
            obtain ⟨z1, z2, z3, z4⟩ := (hx8.call hb9).two
            have hq5 := bl_call (bl_call (bl_call (bl_call hb6 hb7) hb8) hbl8) hb9
            have hq4 := bl_call hb5 hq5
            clear hx8 hbl8 C1 C2 C3 C4 C5 C6 C7 hb03 hb04 hb05 hb06 hb07 hb08
            go_wp2_with (fail)
            refine (C8 _ _ _ (hr.later hb09) (hr4.later hq4)).out.mono ?_
            rintro e w10 ⟨rfl, hb10⟩
            have hb10a := bl_call hb09 hb10
            go_wp2_with (fail)
            refine (C9 _ _ _ (hr.later hb10a) ((hr5.later hq5).later hb10)).out.mono ?_
            rintro e w11 ⟨rfl, hb11⟩
            have hb11a := bl_call hb10a hb11
            go_wp2_with (fail)
            clear hr4 hr5 hq4 hq5
            refine (C11 _ (hr.later hb11a) (hrb.later hb11a)).out.mono ?_
            rintro e w12 ⟨rfl, hb12⟩
            have hb12a := bl_call hb11a hb12
            go_wp2_with (fail)
            refine (C12 _ (hr.later hb12a)).out.mono ?_
            rintro e w13 ⟨A13, c13, rfl, ho13, hb13⟩
            have hb13a := bl_call hb12a hb13
            have hr13 := (own_rd ho13).1
            go_wp2_with (fail)
            refine (C13 _ _ _ hr13).out.mono ?_
            rintro e w14 ⟨rfl, hb14⟩
            have hb14a := bl_call hb13a hb14
            go_wp2_with (fail)
            refine (C14 _ _ _ (hr13.later hb14)).out.mono ?_
            rintro e w15 ⟨A15, c15, rfl, ho15, hb15⟩
            have hb15a := bl_call hb14a hb15
            have hr15 := (own_rd ho15).1
            have hrw := hr.later hb15a
            clear ho13 ho15 hr13 C12 C13 C14 C11
            go_wp2_with (fail)
            go_loopg [30] l.length (fun gk iv wr => ∃ k : Nat, Hid (k + gk = l.length) ∧ iv = .int .i64 (k : Int) ∧ Below w15.heap.size w15 wr)
            case atStart => exact ⟨0, by simp [Hid], rfl, Below.refl _ _⟩
            case round =>
              obtain ⟨k, HKK, rfl, hbr⟩ := hrel
              rcases gk with _ | gi
              · obtain rfl : k = l.length := HKK.out
                have hbr0 := bl_call hb15a hbr
                go_wp2_with (fail)
                refine (C15 _ (hr.later hbr0)).out.mono ?_
                rintro e w16 ⟨A16, c16, rfl, ho16, hb16⟩
                have hb16a := bl_call hbr0 hb16
                by_cases hm : me = 0
                · by_cases hn : l.length = 0
                  · have hn0 : ((l.length : Int) == 0) = true := by simp [hn]
                    clear hn
                    subst hm
                    go_wp2_with (fail)
                    go_ret
                    exact ⟨rfl, hb16a⟩
                  · have hn0 : ((l.length : Int) == 0) = false := by rw [beq_eq_false_iff_ne]; omega
                    by_cases h0 : by_ < 0
                    · subst hm
                      go_wp2_with (fail)
                      go_ret
                      exact ⟨rfl, hb16a⟩
                    · by_cases h6 : 60 < by_
                      · subst hm
                        go_wp2_with (fail)
                        go_ret
                        exact ⟨rfl, hb16a⟩
                      · obtain ⟨f1, f2, f3⟩ := HMZ.out hm (by omega)
                        have HX := C16 A16 c16 w16 (by omega) (own_rd ho16).1
                        rw [f1, f2] at HX
                        subst hm
                        have hee : (la - by_ == la - by_) = true := beq_self_eq_true _
                        clear f1 f2 f3 HMZ
                        go_wp2_with (fail)
                        refine HX.out.mono ?_
                        rintro e w17 ⟨rfl, hb17⟩
                        go_wp2_with (fail)
                        go_ret
                        exact ⟨rfl, bl_call hb16a hb17⟩
                · have hm' : (me != 0) = true := by simpa using hm
                  go_wp2_with (fail)
                  go_ret
                  exact ⟨rfl, hb16a⟩
              · have hkl : k < l.length := by have := HKK.out; omega
                have hkl' : (k : Int) < (l.length : Int) := by omega
                obtain ⟨b1, o1, rfl, _, d0, d1, d2⟩ := (hrw.later hbr).tri hkl
                obtain ⟨b2, o2, rfl, _, e0, e1, e2⟩ := (hr15.later hbr).tri hkl
                clear HLT
                generalize l.getD k t0 = x at *
                obtain ⟨x0, x1, x2⟩ := x
                simp only [] at d0 d1 d2 e0 e1 e2
                go_wp2_with (fail)
                go_quiet (fail)
                go_wp2_with (fail)
                go_roundg gi
                case rel => exact ⟨k + 1, by have := HKK.out; show _ = _; omega, by go_num, below_drewN hbr _⟩
                case measure => omega
          · have ht0 : (tabE l tb == 0) = false := by rw [beq_eq_false_iff_ne]; exact ht
            clear ht
            generalize tabE l tb = te at *
            go_enter Try.func15, Try.ntmps15
            go_wp2_with (fail)
            refine (HBL.out _ _ hr3).mono ?_
            rintro e w1 ⟨A1, c1, rfl, hr1, hb1⟩
            have hbn := bl_alloc (Below.refl w1.heap.size w1) (.cells #[.int .i64 1, .int .i64 0, .int .i64 0] 3)
            have hb01n := bl_call (bl_call hb0 hb1) hbn
            go_wp2_with (fail)
            refine (HSI.out _ _ _ _ (hr1.later hbn) (rd_newI w1 3 [1, 0, 0])).mono ?_
            rintro e w2 ⟨rfl, hb2⟩
            have hb02 := bl_call hb01n hb2
            go_wp2_with (fail)
            refine (HL _).out.mono ?_
            rintro e wl ⟨rfl, rfl⟩
            clear hbn hb01n hb2 hb1 hr1 HBL HSI HL hr3
            go_wp2_with (fail)
            refine (C1 _ (hr.later hb02)).out.mono ?_
            rintro e w3 ⟨rfl, hb3⟩
            have hb03 := bl_call hb02 hb3
            go_wp2_with (fail)
            refine (C2 _ (hr.later hb03)).out.mono ?_
            rintro e w4 ⟨A4, c4, rfl, hr4, hb4⟩
            have hb04 := bl_call hb03 hb4
            go_wp2_with (fail)
            refine (C3 _ (hr.later hb04)).out.mono ?_
            rintro e w5 ⟨A5, c5, rfl, hr5, hb5⟩
            have hb05 := bl_call hb04 hb5
            go_wp2_with (fail)
            refine (C4 _ (hr.later hb05)).out.mono ?_
            rintro e w6 ⟨rfl, hb6⟩
            have hb06 := bl_call hb05 hb6
            go_wp2_with (fail)
            refine (C5 _ (hr.later hb06)).out.mono ?_
            rintro e w7 ⟨rfl, hb7⟩
            have hb07 := bl_call hb06 hb7
            go_wp2_with (fail)
            refine (C6 _ (hr.later hb07)).out.mono ?_
            rintro e w8 ⟨rfl, hb8⟩
            have hx8 : Bx (w8.alloc (.cells #[.int .i64 p, .int .i64 q] 51)) w8.heap.size 51 #[.int .i64 p, .int .i64 q] := Bx.new _ _ _
            have hbl8 := bl_alloc (Below.refl w8.heap.size w8) (.cells #[.int .i64 p, .int .i64 q] 51)
            have hb08 := bl_call (bl_call hb07 hb8) hbl8
            go_wp2_with (fail)
            refine (C7 _ (hr.later hb08)).out.mono ?_
            rintro e w9 ⟨rfl, hb9⟩
            have hb09 := bl_call hb08 hb9
            obtain ⟨z1, z2, z3, z4⟩ := (hx8.call hb9).two
            have hq5 := bl_call (bl_call (bl_call (bl_call hb6 hb7) hb8) hbl8) hb9
            have hq4 := bl_call hb5 hq5
            clear hx8 hbl8 C1 C2 C3 C4 C5 C6 C7 hb03 hb04 hb05 hb06 hb07 hb08
            go_wp2_with (fail)
            refine (C8 _ _ _ (hr.later hb09) (hr4.later hq4)).out.mono ?_
            rintro e w10 ⟨rfl, hb10⟩
            have hb10a := bl_call hb09 hb10
            go_wp2_with (fail)
            refine (C9 _ _ _ (hr.later hb10a) ((hr5.later hq5).later hb10)).out.mono ?_
            rintro e w11 ⟨rfl, hb11⟩
            have hb11a := bl_call hb10a hb11
            go_wp2_with (fail)
            clear hr4 hr5 hq4 hq5
            refine (C11 _ (hr.later hb11a) (hrb.later hb11a)).out.mono ?_
            rintro e w12 ⟨rfl, hb12⟩
            have hb12a := bl_call hb11a hb12
            go_wp2_with (fail)
            refine (C12 _ (hr.later hb12a)).out.mono ?_
            rintro e w13 ⟨A13, c13, rfl, ho13, hb13⟩
            have hb13a := bl_call hb12a hb13
            have hr13 := (own_rd ho13).1
            go_wp2_with (fail)
            refine (C13 _ _ _ hr13).out.mono ?_
            rintro e w14 ⟨rfl, hb14⟩
            have hb14a := bl_call hb13a hb14
            go_wp2_with (fail)
            refine (C14 _ _ _ (hr13.later hb14)).out.mono ?_
            rintro e w15 ⟨A15, c15, rfl, ho15, hb15⟩
            have hb15a := bl_call hb14a hb15
            have hr15 := (own_rd ho15).1
            have hrw := hr.later hb15a
            clear ho13 ho15 hr13 C12 C13 C14 C11
            go_wp2_with (fail)
            go_loopg [30] l.length (fun gk iv wr => ∃ k : Nat, Hid (k + gk = l.length) ∧ iv = .int .i64 (k : Int) ∧ Below w15.heap.size w15 wr)
            case atStart => exact ⟨0, by simp [Hid], rfl, Below.refl _ _⟩
            case round =>
              obtain ⟨k, HKK, rfl, hbr⟩ := hrel
              rcases gk with _ | gi
              · obtain rfl : k = l.length := HKK.out
                have hbr0 := bl_call hb15a hbr
                go_wp2_with (fail)
                refine (C15 _ (hr.later hbr0)).out.mono ?_
                rintro e w16 ⟨A16, c16, rfl, ho16, hb16⟩
                have hb16a := bl_call hbr0 hb16
                by_cases hm : me = 0
                · by_cases hn : l.length = 0
                  · have hn0 : ((l.length : Int) == 0) = true := by simp [hn]
                    clear hn
                    subst hm
                    go_wp2_with (fail)
                    go_ret
                    exact ⟨rfl, hb16a⟩
                  · have hn0 : ((l.length : Int) == 0) = false := by rw [beq_eq_false_iff_ne]; omega
                    by_cases h0 : by_ < 0
                    · subst hm
                      go_wp2_with (fail)
                      go_ret
                      exact ⟨rfl, hb16a⟩
                    · by_cases h6 : 60 < by_
                      · subst hm
                        go_wp2_with (fail)
                        go_ret
                        exact ⟨rfl, hb16a⟩
                      · obtain ⟨f1, f2, f3⟩ := HMZ.out hm (by omega)
                        have HX := C16 A16 c16 w16 (by omega) (own_rd ho16).1
                        rw [f1, f2] at HX
                        subst hm
                        have hee : (la - by_ == la - by_) = true := beq_self_eq_true _
                        clear f1 f2 f3 HMZ
                        go_wp2_with (fail)
                        refine HX.out.mono ?_
                        rintro e w17 ⟨rfl, hb17⟩
                        go_wp2_with (fail)
                        go_ret
                        exact ⟨rfl, bl_call hb16a hb17⟩
                · have hm' : (me != 0) = true := by simpa using hm
                  go_wp2_with (fail)
                  go_ret
                  exact ⟨rfl, hb16a⟩
              · have hkl : k < l.length := by have := HKK.out; omega
                have hkl' : (k : Int) < (l.length : Int) := by omega
                obtain ⟨b1, o1, rfl, _, d0, d1, d2⟩ := (hrw.later hbr).tri hkl
                obtain ⟨b2, o2, rfl, _, e0, e1, e2⟩ := (hr15.later hbr).tri hkl
                clear HLT
                generalize l.getD k t0 = x at *
                obtain ⟨x0, x1, x2⟩ := x
                simp only [] at d0 d1 d2 e0 e1 e2
                go_wp2_with (fail)
                go_quiet (fail)
                go_wp2_with (fail)
                go_roundg gi
                case rel => exact ⟨k + 1, by have := HKK.out; show _ = _; omega, by go_num, below_drewN hbr _⟩
                case measure => omega
        | false =>
          have ht0 : (tabE l tb == 0) = false := by rw [beq_eq_false_iff_ne]; exact fun h => by rw [e8 tb h] at hc; cases hc
          rw [e7 hc] at C10
          rw [hc] at C1 C2 C7 C13 e3 e4 e5
          clear e6 e7 e8 hc C8 C9
          generalize tabE l tb = te at *
          go_enter Try.func15, Try.ntmps15
          go_wp2_with (fail)
          refine (HBL.out _ _ hr3).mono ?_
          rintro e w1 ⟨A1, c1, rfl, hr1, hb1⟩
          have hbn := bl_alloc (Below.refl w1.heap.size w1) (.cells #[.int .i64 1, .int .i64 0, .int .i64 0] 3)
          have hb01n := bl_call (bl_call hb0 hb1) hbn
          go_wp2_with (fail)
          refine (HSI.out _ _ _ _ (hr1.later hbn) (rd_newI w1 3 [1, 0, 0])).mono ?_
          rintro e w2 ⟨rfl, hb2⟩
          have hb02 := bl_call hb01n hb2
          go_wp2_with (fail)
          refine (HL _).out.mono ?_
          rintro e wl ⟨rfl, rfl⟩
          clear hbn hb01n hb2 hb1 hr1 HBL HSI HL hr3
          go_wp2_with (fail)
          refine (C1 _ (hr.later hb02)).out.mono ?_
          rintro e w3 ⟨rfl, hb3⟩
          have hb03 := bl_call hb02 hb3
          go_wp2_with (fail)
          refine (C2 _ (hr.later hb03)).out.mono ?_
          rintro e w4 ⟨A4, c4, rfl, hr4, hb4⟩
          have hb04 := bl_call hb03 hb4
          go_wp2_with (fail)
          refine (C3 _ (hr.later hb04)).out.mono ?_
          rintro e w5 ⟨A5, c5, rfl, hr5, hb5⟩
          have hb05 := bl_call hb04 hb5
          go_wp2_with (fail)
          refine (C4 _ (hr.later hb05)).out.mono ?_
          rintro e w6 ⟨rfl, hb6⟩
          have hb06 := bl_call hb05 hb6
          go_wp2_with (fail)
          refine (C5 _ (hr.later hb06)).out.mono ?_
          rintro e w7 ⟨rfl, hb7⟩
          have hb07 := bl_call hb06 hb7
          go_wp2_with (fail)
          refine (C6 _ (hr.later hb07)).out.mono ?_
          rintro e w8 ⟨rfl, hb8⟩
          have hx8 : Bx (w8.alloc (.cells #[.int .i64 p, .int .i64 q] 51)) w8.heap.size 51 #[.int .i64 p, .int .i64 q] := Bx.new _ _ _
          have hbl8 := bl_alloc (Below.refl w8.heap.size w8) (.cells #[.int .i64 p, .int .i64 q] 51)
          have hb08 := bl_call (bl_call hb07 hb8) hbl8
          go_wp2_with (fail)
          refine (C7 _ (hr.later hb08)).out.mono ?_
          rintro e w9 ⟨rfl, hb9⟩
          have hb09 := bl_call hb08 hb9
          obtain ⟨z1, z2, z3, z4⟩ := (hx8.call hb9).two
          have hq5 := bl_call (bl_call (bl_call (bl_call hb6 hb7) hb8) hbl8) hb9
          have hq4 := bl_call hb5 hq5
          clear hx8 hbl8 C1 C2 C3 C4 C5 C6 C7 hb03 hb04 hb05 hb06 hb07 hb08
          go_wp2_with (fail)
          refine (C10 _ (hr.later hb09)).out.mono ?_
          rintro e w11 ⟨rfl, hb11⟩
          have hb11a := bl_call hb09 hb11
          go_wp2_with (fail)
          clear hr4 hr5 hq4 hq5
          refine (C11 _ (hr.later hb11a) (hrb.later hb11a)).out.mono ?_
          rintro e w12 ⟨rfl, hb12⟩
          have hb12a := bl_call hb11a hb12
          go_wp2_with (fail)
          refine (C12 _ (hr.later hb12a)).out.mono ?_
          rintro e w13 ⟨A13, c13, rfl, ho13, hb13⟩
          have hb13a := bl_call hb12a hb13
          have hr13 := (own_rd ho13).1
          go_wp2_with (fail)
          refine (C13 _ _ _ hr13).out.mono ?_
          rintro e w14 ⟨rfl, hb14⟩
          have hb14a := bl_call hb13a hb14
          go_wp2_with (fail)
          refine (C14 _ _ _ (hr13.later hb14)).out.mono ?_
          rintro e w15 ⟨A15, c15, rfl, ho15, hb15⟩
          have hb15a := bl_call hb14a hb15
          have hr15 := (own_rd ho15).1
          have hrw := hr.later hb15a
          clear ho13 ho15 hr13 C12 C13 C14 C11
          go_wp2_with (fail)
          go_loopg [30] l.length (fun gk iv wr => ∃ k : Nat, Hid (k + gk = l.length) ∧ iv = .int .i64 (k : Int) ∧ Below w15.heap.size w15 wr)
          case atStart => exact ⟨0, by simp [Hid], rfl, Below.refl _ _⟩
          case round =>
            obtain ⟨k, HKK, rfl, hbr⟩ := hrel
            rcases gk with _ | gi
            · obtain rfl : k = l.length := HKK.out
              have hbr0 := bl_call hb15a hbr
              go_wp2_with (fail)
              refine (C15 _ (hr.later hbr0)).out.mono ?_
              rintro e w16 ⟨A16, c16, rfl, ho16, hb16⟩
              have hb16a := bl_call hbr0 hb16
              by_cases hm : me = 0
              · by_cases hn : l.length = 0
                · have hn0 : ((l.length : Int) == 0) = true := by simp [hn]
                  clear hn
                  subst hm
                  go_wp2_with (fail)
                  go_ret
                  exact ⟨rfl, hb16a⟩
                · have hn0 : ((l.length : Int) == 0) = false := by rw [beq_eq_false_iff_ne]; omega
                  by_cases h0 : by_ < 0
                  · subst hm
                    go_wp2_with (fail)
                    go_ret
                    exact ⟨rfl, hb16a⟩
                  · by_cases h6 : 60 < by_
                    · subst hm
                      go_wp2_with (fail)
                      go_ret
                      exact ⟨rfl, hb16a⟩
                    · obtain ⟨f1, f2, f3⟩ := HMZ.out hm (by omega)
                      have HX := C16 A16 c16 w16 (by omega) (own_rd ho16).1
                      rw [f1, f2] at HX
                      subst hm
                      have hee : (la - by_ == la - by_) = true := beq_self_eq_true _
                      clear f1 f2 f3 HMZ
                      go_wp2_with (fail)
                      refine HX.out.mono ?_
                      rintro e w17 ⟨rfl, hb17⟩
                      go_wp2_with (fail)
                      go_ret
                      exact ⟨rfl, bl_call hb16a hb17⟩
              · have hm' : (me != 0) = true := by simpa using hm
                go_wp2_with (fail)
                go_ret
                exact ⟨rfl, hb16a⟩
            · have hkl : k < l.length := by have := HKK.out; omega
              have hkl' : (k : Int) < (l.length : Int) := by omega
              obtain ⟨b1, o1, rfl, _, d0, d1, d2⟩ := (hrw.later hbr).tri hkl
              obtain ⟨b2, o2, rfl, _, e0, e1, e2⟩ := (hr15.later hbr).tri hkl
              clear HLT
              generalize l.getD k t0 = x at *
              obtain ⟨x0, x1, x2⟩ := x
              simp only [] at d0 d1 d2 e0 e1 e2
              go_wp2_with (fail)
              go_quiet (fail)
              go_wp2_with (fail)
              go_roundg gi
              case rel => exact ⟨k + 1, by have := HKK.out; show _ = _; omega, by go_num, below_drewN hbr _⟩
              case measure => omega
      · have hv' : (validE l != 0) = true := by simpa using hv
        have HV := fun w h => Lib.hid (validate_c A l c w hlen h)
        have hvv : (validE l == validE l) = true := beq_self_eq_true _
        generalize canG l = cn at *
        generalize validE l = v at *
        go_enter Try.func15, Try.ntmps15
        go_wp2_with (fail)
        refine (HBL.out _ _ hr3).mono ?_
        rintro e w1 ⟨A1, c1, rfl, hr1, hb1⟩
        have hbn := bl_alloc (Below.refl w1.heap.size w1) (.cells #[.int .i64 1, .int .i64 0, .int .i64 0] 3)
        have hb01n := bl_call (bl_call hb0 hb1) hbn
        go_wp2_with (fail)
        refine (HSI.out _ _ _ _ (hr1.later hbn) (rd_newI w1 3 [1, 0, 0])).mono ?_
        rintro e w2 ⟨rfl, hb2⟩
        have hb02 := bl_call hb01n hb2
        go_wp2_with (fail)
        refine (HL _).out.mono ?_
        rintro e wl ⟨rfl, rfl⟩
        clear hbn hb01n hb2 hb1 hr1 HBL HSI HL hr3
        go_wp2_with (fail)
        refine (C1 _ (hr.later hb02)).out.mono ?_
        rintro e w3 ⟨rfl, hb3⟩
        have hb03 := bl_call hb02 hb3
        go_wp2_with (fail)
        refine (HV _ (hr.later hb03)).out.mono ?_
        rintro e w4 ⟨rfl, hb4⟩
        go_wp2_with (fail)
        go_ret
        exact ⟨rfl, bl_call hb03 hb4⟩
end Go.Proofs.Ytiffgaelndajpaa
