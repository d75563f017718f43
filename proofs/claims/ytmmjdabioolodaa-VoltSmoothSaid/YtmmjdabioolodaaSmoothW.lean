/- VoltSmooth, walked. -/
import Derived.Test.YtmmjdabioolodaaKnw
import Derived.Test.YtmmjdabioolodaaRsmo
namespace Go.Proofs.Ytmmjdabioolodaa
open Go.RowKit

theorem smo_no {g row : List (List Int)} (h : (smoG g row).2 = false) : crsG g row = [] := by
  unfold crsG
  unfold smoG at h
  split
  · rename_i hx
    rw [if_pos hx] at h
    rw [best_no h]
  · rfl
theorem smo_yes {g row : List (List Int)} (h : (smoG g row).2 = true) : rowB g row = true ∧ Brief (crsG g row) ∧ chkG g row (crsG g row) = ((smoG g row).1, 0) := by
  unfold smoG at h
  rcases hx : rowB g row with _ | _
  · rw [hx] at h; cases h
  · rw [hx] at h
    have he : eachB g row = true := h
    obtain ⟨h1, h2, _⟩ := best_ok he
    have hc : crsG g row = (bestC g row).1 := by unfold crsG; rw [if_pos hx]
    have hs : (smoG g row).1 = (bestC g row).2 := by unfold smoG; rw [if_pos hx]
    have hE := (chk_course hx).2 h1
    have hr := rowB_iff.1 hx
    rw [hc, hs]
    refine ⟨rfl, ⟨by rw [h1.1]; have := hr.2.len; omega, fun k hk => ?_⟩, ?_⟩
    · rw [makers_volts (h1.2 k (by rw [← h1.1]; exact hk))]; have := hr.1.wrs; omega
    · have hj := chk_jump hE
      rw [h2] at hj
      rw [← hj, ← hE]
set_option maxRecDepth 100000 in
set_option maxHeartbeats 4000000 in
theorem voltSmooth_walk (A : Option Addr) (R : Rows) (g : List (List Int)) (cap : Nat) (B : Option Addr) (T : Rows) (row : List (List Int)) (cap2 : Nat) (w : World) (hcapg : g.length ≤ cap) (hcmg : cap ≤ maxLen) (hcaprow : row.length ≤ cap2) (hcmrow : cap2 ≤ maxLen) (hg : RT w A R g) (hrow : RT w B T row) :
    Calls Try.prog 10 #[.slice A g.length cap, .slice B row.length cap2] w fun e w' => e = .returned (.bool true) ∧ Below w.heap.size w w' := by
  have HK := fun w => Lib.hid (known_c w)
  have HLg := fun w h => Lib.hid (Long_c A R g cap w (by unfold maxLen at hcmg; omega) h)
  have HLrow := fun w h => Lib.hid (Long_c B T row cap2 w (by unfold maxLen at hcmrow; omega) h)
  rcases hxg : longB g with _ | _
  rotate_left
  · rw [hxg] at HLg
    go_enter Try.func10, Try.ntmps10
    have hb0 := Below.refl w.heap.size w
    go_wp2_with (fail)
    refine (HLg _ (hg.later hb0)).out.mono ?_
    rintro e w1 ⟨rfl, hbx⟩
    replace hb0 := bl_call hb0 hbx
    clear hbx
    go_wp2_with (fail)
    refine (HK _).out.mono ?_
    rintro e wk ⟨rfl, hbk⟩
    go_wp2_with (fail)
    go_ret
    exact ⟨rfl, bl_call hb0 hbk⟩
  rw [hxg] at HLg
  obtain ⟨hbrg, hlg, hlrg⟩ := brief_of hxg
  rcases hxrow : longB row with _ | _
  rotate_left
  · rw [hxrow] at HLrow
    go_enter Try.func10, Try.ntmps10
    have hb0 := Below.refl w.heap.size w
    go_wp2_with (fail)
    refine (HLg _ (hg.later hb0)).out.mono ?_
    rintro e w1 ⟨rfl, hbx⟩
    replace hb0 := bl_call hb0 hbx
    clear hbx
    go_wp2_with (fail)
    refine (HLrow _ (hrow.later hb0)).out.mono ?_
    rintro e w1 ⟨rfl, hbx⟩
    replace hb0 := bl_call hb0 hbx
    clear hbx
    go_wp2_with (fail)
    refine (HK _).out.mono ?_
    rintro e wk ⟨rfl, hbk⟩
    go_wp2_with (fail)
    go_ret
    exact ⟨rfl, bl_call hb0 hbk⟩
  rw [hxrow] at HLrow
  obtain ⟨hbrrow, hlrow, hlrrow⟩ := brief_of hxrow
  have H1 := fun w h h' => Lib.hid (Smooth_c A B R T g row cap cap2 w hbrg hbrrow h h')
  have H2 := fun w h h' => Lib.hid (rSmooth_c A B R T g row cap cap2 w hbrg hbrrow h h')
  have H3 := fun w h h' => Lib.hid (Course_c A B R T g row cap cap2 w hbrg hbrrow h h')
  unfold OutK at H3
  rcases hf : (smoG g row).2 with _ | _
  · rw [smo_no hf, hf] at H3
    rw [hf] at H1 H2
    generalize errB (rowB g row) = E at *
    generalize (smoG g row).1 = a at *
    clear hf hbrg hlg hlrg hxg hbrrow hlrow hlrrow hxrow hcapg hcmg hcaprow hcmrow
    go_enter Try.func10, Try.ntmps10
    have hb0 := Below.refl w.heap.size w
    go_wp2_with (fail)
    refine (HLg _ (hg.later hb0)).out.mono ?_
    rintro e w1 ⟨rfl, hbx⟩
    replace hb0 := bl_call hb0 hbx
    clear hbx
    go_wp2_with (fail)
    refine (HLrow _ (hrow.later hb0)).out.mono ?_
    rintro e w1 ⟨rfl, hbx⟩
    replace hb0 := bl_call hb0 hbx
    clear hbx
    go_wp2_with (fail)
    refine (H1 _ (hg.later hb0) (hrow.later hb0)).out.mono ?_
    rintro e w1 ⟨rfl, hbx⟩
    replace hb0 := bl_call hb0 hbx
    clear hbx
    go_wp2_with (fail)
    refine (H2 _ (hg.later hb0) (hrow.later hb0)).out.mono ?_
    rintro e w1 ⟨rfl, hbx⟩
    replace hb0 := bl_call hb0 hbx
    clear hbx
    go_wp2_with (fail)
    refine (H3 _ (hg.later hb0) (hrow.later hb0)).out.mono ?_
    rintro e w1 ⟨A4, c4, S4, rfl, hr4, hc4, hbx⟩
    replace hb0 := bl_call hb0 hbx
    clear hbx
    go_wp2_with (fail)
    refine (HK _).out.mono ?_
    rintro e wk ⟨rfl, hbk⟩
    go_wp2_with (fail)
    go_ret
    exact ⟨rfl, bl_call hb0 hbk⟩
  · obtain ⟨hx, hbr, hch⟩ := smo_yes hf
    have H4 := fun C c3 S w h h' k => Lib.hid (rCheckCourse_c A B C R T S g row (crsG g row) cap cap2 c3 w hbrg hbrrow hbr h h' k)
    rw [hch] at H4
    rw [hf, hx, errB_t] at H1 H2 H3
    generalize (smoG g row).1 = a at *
    generalize crsG g row = M at *
    clear hf hbrg hlg hlrg hxg hbrrow hlrow hlrrow hxrow hcapg hcmg hcaprow hcmrow hx hbr hch
    go_enter Try.func10, Try.ntmps10
    have hb0 := Below.refl w.heap.size w
    go_wp2_with (fail)
    refine (HLg _ (hg.later hb0)).out.mono ?_
    rintro e w1 ⟨rfl, hbx⟩
    replace hb0 := bl_call hb0 hbx
    clear hbx
    go_wp2_with (fail)
    refine (HLrow _ (hrow.later hb0)).out.mono ?_
    rintro e w1 ⟨rfl, hbx⟩
    replace hb0 := bl_call hb0 hbx
    clear hbx
    go_wp2_with (fail)
    refine (H1 _ (hg.later hb0) (hrow.later hb0)).out.mono ?_
    rintro e w1 ⟨rfl, hbx⟩
    replace hb0 := bl_call hb0 hbx
    clear hbx
    go_wp2_with (fail)
    refine (H2 _ (hg.later hb0) (hrow.later hb0)).out.mono ?_
    rintro e w1 ⟨rfl, hbx⟩
    replace hb0 := bl_call hb0 hbx
    clear hbx
    go_wp2_with (fail)
    refine (H3 _ (hg.later hb0) (hrow.later hb0)).out.mono ?_
    rintro e w1 ⟨A4, c4, S4, rfl, hr4, hc4, hbx⟩
    replace hb0 := bl_call hb0 hbx
    clear hbx
    go_wp2_with (fail)
    refine (H4 _ _ _ _ (hg.later hb0) (hrow.later hb0) hr4).out.mono ?_
    rintro e w1 ⟨rfl, hbx⟩
    replace hb0 := bl_call hb0 hbx
    clear hbx hr4
    go_wp2_with (fail)
    refine (HK _).out.mono ?_
    rintro e wk ⟨rfl, hbk⟩
    go_wp2_with (fail)
    go_ret
    exact ⟨rfl, bl_call hb0 hbk⟩
end Go.Proofs.Ytmmjdabioolodaa
