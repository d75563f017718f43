/- ClockRelaxes, walked. -/
import Derived.Test.YtiffgaelndajpaaKnownK
import Derived.Test.YtiffgaelndajpaaWit
namespace Go.Proofs.Ytiffgaelndajpaa
open Go.RowKit

set_option maxRecDepth 100000 in
set_option maxHeartbeats 4000000 in
theorem clockRelaxes_walk (A : Option Addr) (l : List T3) (c : Nat) (by_ : Int) (w : World) (_hcap : l.length ≤ c) (hr : Rd w A (cellsT l)) (hby : (Lit.int .i64 by_).wf = true) :
    Calls Try.prog 13 #[.slice A l.length c, .int .i64 by_] w fun e w' => e = .returned (.bool true) ∧ Below w.heap.size w w' := by
  have HL := fun w => Lib.hid (long_c A l.length c w)
  have HK := fun w => Lib.hid (known_c w)
  by_cases hlong : 40 < l.length
  · rw [decide_eq_true hlong] at HL
    go_enter Try.func13, Try.ntmps13
    go_wp2_with (fail)
    refine (HL _).out.mono ?_
    rintro e w1 ⟨rfl, rfl⟩
    go_wp2_with (fail)
    refine (HK _).out.mono ?_
    rintro e w2 ⟨rfl, hb2⟩
    go_wp2_with (fail)
    go_ret
    exact ⟨rfl, hb2⟩
  · rw [decide_eq_false hlong] at HL
    have hlen : l.length ≤ 1000 := by omega
    clear hlong
    have H1 := fun w h => Lib.hid (Relax_c A l c by_ w hby hlen h)
    have H2 := fun w h => Lib.hid (rRelax_c A l c by_ w hlen h)
    have HS := fun B B' c' c'' w h h' => Lib.hid (rSame_c B B' (movL 0 by_ l) c' c'' w (by unfold movL; split <;> simp <;> omega) h h')
    have hb00 : Below w.heap.size w w := Below.refl _ _
    by_cases hv : movE 0 by_ l = 0
    · obtain ⟨hl, ho, hin⟩ := movE_zero hv
      have hM : movL 0 by_ l = l.map (addJ 0 by_) := by rw [movL, if_pos hv]
      have hml : (movL 0 by_ l).length = l.length := by rw [hM, List.length_map]
      have vl := validE_ok.2 hl
      have vo := validE_ok.2 ho
      by_cases hn : l.length = 0
      · have hn0 : ((l.length : Int) == 0) = true := by simp [hn]
        rw [hv] at H1 H2
        have HN := Lib.hid hn
        clear hM hml vl vo hv hl ho hin hn
        generalize movL 0 by_ l = M at *
        go_enter Try.func13, Try.ntmps13
        go_wp2_with (fail)
        refine (HL _).out.mono ?_
        rintro e w1 ⟨rfl, rfl⟩
        go_wp2_with (fail)
        refine (H1 _ hr).out.mono ?_
        rintro e w1 ⟨A1, c1, rfl, ho1, hb1⟩
        have hb01 := bl_call hb00 hb1
        go_wp2_with (fail)
        refine (H2 _ (hr.later hb01)).out.mono ?_
        rintro e w2 ⟨A2, c2, rfl, ho2, hb2⟩
        have hb02 := bl_call hb01 hb2
        have hra := (own_rd ho1).1
        have hrb := (own_rd ho2).1
        go_wp2_with (fail)
        refine (HS _ _ _ _ _ (hra.later hb2) hrb).out.mono ?_
        rintro e w3 ⟨rfl, hb3⟩
        have hb03 := bl_call hb02 hb3
        go_wp2_with (fail)
        refine (HK _).out.mono ?_
        rintro e wk ⟨rfl, hbk⟩
        go_wp2_with (fail)
        go_ret
        exact ⟨rfl, bl_call hb03 hbk⟩
      · have hn0 : ((l.length : Int) == 0) = false := by rw [beq_eq_false_iff_ne]; omega
        have hpos : 0 < l.length := by omega
        obtain ⟨b0, b1⟩ := hin hpos
        have hlate : lateG (movL 0 by_ l) = lateG l - by_ := by rw [lateG, lateG, hM, if_pos vo, if_pos vl, late_add hl ho hpos]; omega
        have hrg := lateL_range hl
        have hlg : lateG l = lateL l := by rw [lateG, if_pos vl]
        rw [← hlg] at hrg
        obtain ⟨g0, g1⟩ := hrg
        have H3 := fun B c' w h => Lib.hid (Late_c B (movL 0 by_ l) c' w (by omega) h)
        have H4 := fun w h => Lib.hid (Late_c A l c w hlen h)
        have HW := fun w => Lib.hid (within_c by_ (-60) 60 w)
        rw [inB_z.2 ⟨b0, b1⟩] at HW
        rw [hlate, hM, vo, ← hM] at H3
        rw [vl] at H4
        rw [hv] at H1 H2
        clear hlate hM hml vl vo hv hl ho hin hn hpos hlg
        generalize movL 0 by_ l = M at *
        generalize lateG l = N at *
        go_enter Try.func13, Try.ntmps13
        go_wp2_with (fail)
        refine (HL _).out.mono ?_
        rintro e w1 ⟨rfl, rfl⟩
        go_wp2_with (fail)
        refine (H1 _ hr).out.mono ?_
        rintro e w1 ⟨A1, c1, rfl, ho1, hb1⟩
        have hb01 := bl_call hb00 hb1
        go_wp2_with (fail)
        refine (H2 _ (hr.later hb01)).out.mono ?_
        rintro e w2 ⟨A2, c2, rfl, ho2, hb2⟩
        have hb02 := bl_call hb01 hb2
        have hra := (own_rd ho1).1
        have hrb := (own_rd ho2).1
        go_wp2_with (fail)
        refine (HS _ _ _ _ _ (hra.later hb2) hrb).out.mono ?_
        rintro e w3 ⟨rfl, hb3⟩
        have hb03 := bl_call hb02 hb3
        go_wp2_with (fail)
        refine (H3 _ _ _ ((hra.later hb2).later hb3)).out.mono ?_
        rintro e w4 ⟨rfl, hb4⟩
        have hb04 := bl_call hb03 hb4
        go_wp2_with (fail)
        refine (H4 _ (hr.later hb04)).out.mono ?_
        rintro e w5 ⟨rfl, hb5⟩
        have hb05 := bl_call hb04 hb5
        go_wp2_with (go_at_call 51; refine (HW _).out.mono ?_; rintro e wz ⟨rfl, rfl⟩)
        refine (HK _).out.mono ?_
        rintro e wk ⟨rfl, hbk⟩
        go_wp2_with (fail)
        go_ret
        exact ⟨rfl, bl_call hb05 hbk⟩
    · have hv' : (movE 0 by_ l != 0) = true := by simpa using hv
      generalize movL 0 by_ l = M at *
      generalize movE 0 by_ l = v at *
      go_enter Try.func13, Try.ntmps13
      go_wp2_with (fail)
      refine (HL _).out.mono ?_
      rintro e w1 ⟨rfl, rfl⟩
      go_wp2_with (fail)
      refine (H1 _ hr).out.mono ?_
      rintro e w1 ⟨A1, c1, rfl, ho1, hb1⟩
      have hb01 := bl_call hb00 hb1
      go_wp2_with (fail)
      refine (H2 _ (hr.later hb01)).out.mono ?_
      rintro e w2 ⟨A2, c2, rfl, ho2, hb2⟩
      have hb02 := bl_call hb01 hb2
      have hra := (own_rd ho1).1
      have hrb := (own_rd ho2).1
      go_wp2_with (fail)
      refine (HS _ _ _ _ _ (hra.later hb2) hrb).out.mono ?_
      rintro e w3 ⟨rfl, hb3⟩
      have hb03 := bl_call hb02 hb3
      go_wp2_with (fail)
      refine (HK _).out.mono ?_
      rintro e wk ⟨rfl, hbk⟩
      go_wp2_with (fail)
      go_ret
      exact ⟨rfl, bl_call hb03 hbk⟩
end Go.Proofs.Ytiffgaelndajpaa
