/- DriftTracks, walked. -/
import Derived.Test.YtbbhaongakmhpaaKnownD
import Derived.Test.YtbbhaongakmhpaaRcht
namespace Go.Proofs.Ytbbhaongakmhpaa
open Go.RowKit

set_option maxRecDepth 100000 in
set_option maxHeartbeats 4000000 in
theorem driftTracks_walk (A : Option Addr) (l : List T3) (c : Nat) (r : Int) (w : World) (_hcap : l.length ≤ c) (hr : Rd w A (cellsT l)) (_hr : (Lit.int .i64 r).wf = true) :
    Calls Try.prog 9 #[.slice A l.length c, .int .i64 r] w fun e w' => e = .returned (.bool true) ∧ Below w.heap.size w w' := by
  have HL := fun w => Lib.hid (long_c A l.length c w)
  have HK := fun w => Lib.hid (known_c w)
  by_cases hlong : 100 < l.length
  · rw [decide_eq_true hlong] at HL
    go_enter Try.func9, Try.ntmps9
    go_wp2_with (fail)
    refine (HL _).out.mono ?_
    rintro e w1 ⟨rfl, rfl⟩
    go_wp2_with (fail)
    refine (HK _).out.mono ?_
    rintro e w2 ⟨rfl, hb2⟩
    go_wp2_with (fail)
    go_ret
    exact ⟨rfl, hb2⟩
  · rw [decide_eq_false hlong] at HL
    have hlen : l.length ≤ 1000 := by omega
    clear hlong
    have H1 := fun w h => Lib.hid (Track_c A l c r w hlen h)
    have H2 := fun w h => Lib.hid (rAgree_c A l c r w hlen h)
    rcases hg : agrG l r with _ | _
    · have hG : trkG l r = [] := by unfold trkG; rw [hg]; rfl
      rw [hG, hg] at H1
      rw [hg] at H2
      clear hg hG
      generalize ratE l r = E at *
      go_enter Try.func9, Try.ntmps9
      go_wp2_with (fail)
      refine (HL _).out.mono ?_
      rintro e w1 ⟨rfl, rfl⟩
      have hb0 := Below.refl w.heap.size w
      go_wp2_with (fail)
      refine (H1 _ (hr.later hb0)).out.mono ?_
      rintro e w1_ ⟨A1, c1, rfl, ho1, hbx1⟩
      have hb01 := bl_call hb0 hbx1
      go_wp2_with (fail)
      refine (H2 _ (hr.later hb01)).out.mono ?_
      rintro e w2_ ⟨rfl, hbx2⟩
      have hb02 := bl_call hb01 hbx2
      go_wp2_with (fail)
      refine (HK _).out.mono ?_
      rintro e wk ⟨rfl, hbk⟩
      go_wp2_with (fail)
      go_ret
      exact ⟨rfl, bl_call hb02 hbk⟩
    · have hE : ratE l r = 0 := by
        rcases Decidable.em (ratE l r = 0) with h | h
        · exact h
        · rw [agrG_no h] at hg; cases hg
      obtain ⟨ho, h0, h9⟩ := ratE_ok.1 hE
      have ha : agreeB l r = true := by rw [agrG_yes hE] at hg; exact hg
      have hG : trkG l r = trackL l r := by unfold trkG; rw [hg]; rfl
      have hC : chtE l r (trackL l r) = 0 := by unfold chtE; rw [if_pos hE]; exact keepE_zero.2 (track_keeps ho h0 ha)
      have hTL : (trackL l r).length ≤ 100000 := by rw [trackL_length]; have := (times_pos ho).2; omega
      have H3 := fun B d w h h' => Lib.hid (rCheckTrack_c A B l (trackL l r) c d r w hlen hTL h h')
      rw [hG, hg, hE] at H1
      rw [hg, hE] at H2
      rw [hC] at H3
      clear hg hG ho h0 h9 ha hC hE
      generalize trackL l r = M at *
      go_enter Try.func9, Try.ntmps9
      go_wp2_with (fail)
      refine (HL _).out.mono ?_
      rintro e w1 ⟨rfl, rfl⟩
      have hb0 := Below.refl w.heap.size w
      go_wp2_with (fail)
      refine (H1 _ (hr.later hb0)).out.mono ?_
      rintro e w1_ ⟨A1, c1, rfl, ho1, hbx1⟩
      have hb01 := bl_call hb0 hbx1
      go_wp2_with (fail)
      refine (H2 _ (hr.later hb01)).out.mono ?_
      rintro e w2_ ⟨rfl, hbx2⟩
      have hb02 := bl_call hb01 hbx2
      have hr1 := (own_rd ho1).1.later hbx2
      go_wp2_with (fail)
      refine (H3 _ _ _ (hr.later hb02) hr1).out.mono ?_
      rintro e w3_ ⟨rfl, hbx3⟩
      have hb03 := bl_call hb02 hbx3
      go_wp2_with (fail)
      refine (HK _).out.mono ?_
      rintro e wk ⟨rfl, hbk⟩
      go_wp2_with (fail)
      go_ret
      exact ⟨rfl, bl_call hb03 hbk⟩
end Go.Proofs.Ytbbhaongakmhpaa
