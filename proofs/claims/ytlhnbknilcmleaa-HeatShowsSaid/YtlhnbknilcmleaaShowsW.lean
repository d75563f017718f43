/- The walk of the law on the windows shown. -/
import Derived.Test.YtlhnbknilcmleaaFew
import Derived.Test.YtlhnbknilcmleaaRFew
import Derived.Test.YtlhnbknilcmleaaRchw
import Derived.Test.YtlhnbknilcmleaaKnownH
namespace Go.Proofs.Ytlhnbknilcmleaa
open Go.RowKit

theorem winsG_len (n : Int) (l : List T3) (lim : Int) : (winsG n l lim).length ≤ 1000 := by
  by_cases hv : limE n l lim = 0
  · obtain ⟨h20, ha, _⟩ := limE_len hv
    have h1 := winL_len (lim := lim) ha
    have h2 := few_len (lim := lim) ha l.length (Nat.le_refl _)
    rw [List.take_length] at h2
    rw [winsG, if_pos hv]; omega
  · rw [winsG, if_neg hv]; simp
set_option maxRecDepth 100000 in
set_option maxHeartbeats 2000000 in
theorem heatShows_walk (n : Int) (A : Option Addr) (l : List T3) (c : Nat) (lim : Int) (w : World) (hcap : l.length ≤ c) (_hn : (Lit.int .i64 n).wf = true) (hr : Rd w A (cellsT l)) (_hl : (Lit.int .i64 lim).wf = true) :
    Calls Try.prog 10 #[.int .i64 n, .slice A l.length c, .int .i64 lim] w fun e w' => e = .returned (.bool true) ∧ Below w.heap.size w w' := by
  have HL := fun w => Lib.hid (long_c A l.length c w)
  have HK := fun w => Lib.hid (known_c w)
  by_cases hlong : 100 < l.length
  · rw [decide_eq_true hlong] at HL
    go_enter Try.func10, Try.ntmps10
    go_wp2_with (fail)
    refine (HL _).out.mono ?_
    rintro e w1 ⟨rfl, rfl⟩
    go_wp2_with (fail)
    refine (HK _).out.mono ?_
    rintro e w2 ⟨rfl, hb2⟩
    go_wp2_with (fail)
    go_ret
    exact ⟨rfl, hb2⟩
  · rw [decide_eq_false hlong] at HL
    have hlen : l.length ≤ 1000 := by omega
    clear hlong
    have H1 := Lib.hid (Windows_c n A l c lim w hlen hr)
    have H2 := fun w1 h => Lib.hid (rFewest_c n A l c lim w1 hlen hcap h)
    by_cases hv : limE n l lim = 0
    · obtain ⟨e1, e2⟩ := winL_check hv
      have hG : winsG n l lim = winL lim l := by rw [winsG, if_pos hv]
      have hgl := winsG_len n l lim
      have H3 := fun B d w1 h h2 => Lib.hid (rCheckWindows_c n A l c lim B (winsG n l lim) d w1 hlen hcap hgl h h2)
      rw [hG, e1, e2] at H3
      rw [hG] at H1
      rw [hv] at H1 H2
      rw [fewG_ok hv] at H2
      clear e1 e2 hG hgl hv
      generalize winL lim l = F at *
      generalize (few lim l : Int) = k at *
      go_enter Try.func10, Try.ntmps10
      go_wp2_with (fail)
      refine (HL _).out.mono ?_
      rintro e w1 ⟨rfl, rfl⟩
      go_wp2_with (fail)
      refine H1.out.mono ?_
      rintro e w1 ⟨A1, c1, rfl, ho1, hb1⟩
      go_wp2_with (fail)
      refine (H2 _ (hr.later hb1)).out.mono ?_
      rintro e w2 ⟨rfl, hb2⟩
      have hb12 := bl_call hb1 hb2
      have hs := (own_rd ho1).1.later hb2
      go_wp2_with (fail)
      refine (H3 _ _ _ (hr.later hb12) hs).out.mono ?_
      rintro e w3 ⟨rfl, hb3⟩
      go_wp2_with (fail)
      refine (HK _).out.mono ?_
      rintro e wk ⟨rfl, hbk⟩
      go_wp2_with (fail)
      go_ret
      exact ⟨rfl, bl_call (bl_call hb12 hb3) hbk⟩
    · have hG : winsG n l lim = [] := by rw [winsG, if_neg hv]
      have hv' : (limE n l lim != 0) = true := by simpa using hv
      rw [hG] at H1
      clear hG
      generalize fewG n l lim = F at *
      generalize limE n l lim = ev at *
      go_enter Try.func10, Try.ntmps10
      go_wp2_with (fail)
      refine (HL _).out.mono ?_
      rintro e w1 ⟨rfl, rfl⟩
      go_wp2_with (fail)
      refine H1.out.mono ?_
      rintro e w1 ⟨A1, c1, rfl, ho1, hb1⟩
      go_wp2_with (fail)
      refine (H2 _ (hr.later hb1)).out.mono ?_
      rintro e w2 ⟨rfl, hb2⟩
      have hb12 := bl_call hb1 hb2
      go_wp2_with (fail)
      refine (HK _).out.mono ?_
      rintro e wk ⟨rfl, hbk⟩
      go_wp2_with (fail)
      go_ret
      exact ⟨rfl, bl_call hb12 hbk⟩
end Go.Proofs.Ytlhnbknilcmleaa
