/- DriftTight, walked. -/
import Derived.Test.YtbbhaongakmhpaaKnownD
import Derived.Test.YtbbhaongakmhpaaRtgt
namespace Go.Proofs.Ytbbhaongakmhpaa
open Go.RowKit

set_option maxRecDepth 100000 in
set_option maxHeartbeats 4000000 in
theorem driftTight_walk (A : Option Addr) (l : List T3) (c : Nat) (r : Int) (w : World) (_hcap : l.length ≤ c) (hr : Rd w A (cellsT l)) (_hr : (Lit.int .i64 r).wf = true) :
    Calls Try.prog 8 #[.slice A l.length c, .int .i64 r] w fun e w' => e = .returned (.bool true) ∧ Below w.heap.size w w' := by
  have HL := fun w => Lib.hid (long_c A l.length c w)
  have HK := fun w => Lib.hid (known_c w)
  by_cases hlong : 100 < l.length
  · rw [decide_eq_true hlong] at HL
    go_enter Try.func8, Try.ntmps8
    go_wp2_with (fail)
    refine (HL _).out.mono ?_
    rintro e w1 ⟨rfl, rfl⟩
    go_wp2_with (fail)
    refine (HK _).out.mono ?_
    rintro e w2 ⟨rfl, hb2⟩
    go_wp2_with (fail)
    go_ret
    exact ⟨rfl, hb2⟩
  · rw [decide_eq_false hlong] at HL
    have hlen : l.length ≤ 1000 := by omega
    clear hlong
    have H1 := fun w h => Lib.hid (Tight_c A l c r w hlen h)
    have H2 := fun w h => Lib.hid (rTight_c A l c r w hlen h)
    rcases hg : agrG l r with _ | _
    · have hG : tgtG l r = [] := by unfold tgtG; rw [hg]; rfl
      have H3 := fun A B c d w h h' => Lib.hid (same_c A B [] [] c d w (by decide) h h')
      rw [hG, hg] at H1 H2
      rw [decide_eq_true rfl] at H3
      clear hg hG
      generalize ratE l r = E at *
      simp only [List.length_nil] at H3
      go_enter Try.func8, Try.ntmps8
      go_wp2_with (fail)
      refine (HL _).out.mono ?_
      rintro e w1 ⟨rfl, rfl⟩
      have hb0 := Below.refl w.heap.size w
      go_wp2_with (fail)
      refine (H1 _ (hr.later hb0)).out.mono ?_
      rintro e w1_ ⟨A1, c1, rfl, ho1, hbx1⟩
      have hb01 := bl_call hb0 hbx1
      go_wp2_with (fail)
      refine (H2 _ (hr.later hb01)).out.mono ?_
      rintro e w2_ ⟨A2, c2, rfl, ho2, hbx2⟩
      have hb02 := bl_call hb01 hbx2
      have hr1 := (own_rd ho1).1.later hbx2
      have hr2 := (own_rd ho2).1
      go_wp2_with (fail)
      refine (H3 _ _ _ _ _ hr1 hr2).out.mono ?_
      rintro e w3_ ⟨rfl, hbx3⟩
      have hb03 := bl_call hb02 hbx3
      go_wp2_with (fail)
      refine (HK _).out.mono ?_
      rintro e wk ⟨rfl, hbk⟩
      go_wp2_with (fail)
      go_ret
      exact ⟨rfl, bl_call hb03 hbk⟩
    · have hE : ratE l r = 0 := by
        rcases Decidable.em (ratE l r = 0) with h | h
        · exact h
        · rw [agrG_no h] at hg; cases hg
      obtain ⟨ho, h0, h9⟩ := ratE_ok.1 hE
      have ha : agreeB l r = true := by rw [agrG_yes hE] at hg; exact hg
      have hG : tgtG l r = tightL l r := by unfold tgtG; rw [hg]; rfl
      have ht := tight_ok ho h0 ha
      have hE2 : ratE (tightL l r) r = 0 := ratE_ok.2 ⟨ht, h0, h9⟩
      have hg2 : agrG (tightL l r) r = true := by rw [agrG_yes hE2]; exact tight_agree ho h0 ha
      have hG2 : tgtG (tightL l r) r = tightL l r := by unfold tgtG; rw [hg2]; exact tight_again ho h0
      have hl2 : (tightL l r).length ≤ 1000 := by rw [tightL_length]; exact hlen
      have H4 := fun B d w h => Lib.hid (Tight_c B (tightL l r) d r w hl2 h)
      have H3 := fun A B c d w h h' => Lib.hid (same_c A B (tightL l r) (tightL l r) c d w (by omega) h h')
      rw [hG, hg, hE] at H1 H2
      rw [hG2, hg2, hE2] at H4
      rw [decide_eq_true rfl] at H3
      clear hg hG ho h0 h9 ha ht hE2 hg2 hG2 hE
      generalize tightL l r = M at *
      go_enter Try.func8, Try.ntmps8
      go_wp2_with (fail)
      refine (HL _).out.mono ?_
      rintro e w1 ⟨rfl, rfl⟩
      have hb0 := Below.refl w.heap.size w
      go_wp2_with (fail)
      refine (H1 _ (hr.later hb0)).out.mono ?_
      rintro e w1_ ⟨A1, c1, rfl, ho1, hbx1⟩
      have hb01 := bl_call hb0 hbx1
      go_wp2_with (fail)
      refine (H2 _ (hr.later hb01)).out.mono ?_
      rintro e w2_ ⟨A2, c2, rfl, ho2, hbx2⟩
      have hb02 := bl_call hb01 hbx2
      have hr1 := (own_rd ho1).1.later hbx2
      have hr2 := (own_rd ho2).1
      go_wp2_with (fail)
      refine (H3 _ _ _ _ _ hr1 hr2).out.mono ?_
      rintro e w3_ ⟨rfl, hbx3⟩
      have hb03 := bl_call hb02 hbx3
      have hr3 := hr1.later hbx3
      go_wp2_with (fail)
      refine (H4 _ _ _ hr3).out.mono ?_
      rintro e w4_ ⟨A4, c4, rfl, ho4, hbx4⟩
      have hb04 := bl_call hb03 hbx4
      have hr4 := (own_rd ho4).1
      have hr5 := hr3.later hbx4
      go_wp2_with (fail)
      refine (H3 _ _ _ _ _ hr4 hr5).out.mono ?_
      rintro e w5_ ⟨rfl, hbx5⟩
      have hb05 := bl_call hb04 hbx5
      go_wp2_with (fail)
      refine (HK _).out.mono ?_
      rintro e wk ⟨rfl, hbk⟩
      go_wp2_with (fail)
      go_ret
      exact ⟨rfl, bl_call hb05 hbk⟩
end Go.Proofs.Ytbbhaongakmhpaa
