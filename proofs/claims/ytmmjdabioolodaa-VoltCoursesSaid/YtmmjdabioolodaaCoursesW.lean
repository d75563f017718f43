/- VoltCourses, walked. -/
import Derived.Test.YtmmjdabioolodaaKnw
import Derived.Test.YtmmjdabioolodaaRck
namespace Go.Proofs.Ytmmjdabioolodaa
open Go.RowKit

theorem chk_row {g row s : List (List Int)} (h : (chkG g row s).2 = 0) : rowB g row = true := by
  rcases hx : rowB g row with _ | _
  · unfold chkG at h; rw [hx] at h; cases h
  · rfl
set_option maxRecDepth 100000 in
set_option maxHeartbeats 4000000 in
theorem voltCourses_walk (A : Option Addr) (R : Rows) (g : List (List Int)) (cap : Nat) (B : Option Addr) (T : Rows) (row : List (List Int)) (cap2 : Nat) (C : Option Addr) (S : Rows) (s : List (List Int)) (cap3 : Nat) (w : World) (hcapg : g.length ≤ cap) (hcmg : cap ≤ maxLen) (hcaprow : row.length ≤ cap2) (hcmrow : cap2 ≤ maxLen) (hcaps : s.length ≤ cap3) (hcms : cap3 ≤ maxLen) (hg : RT w A R g) (hrow : RT w B T row) (hs : RT w C S s) :
    Calls Try.prog 9 #[.slice A g.length cap, .slice B row.length cap2, .slice C s.length cap3] w fun e w' => e = .returned (.bool true) ∧ Below w.heap.size w w' := by
  have HK := fun w => Lib.hid (known_c w)
  have HLg := fun w h => Lib.hid (Long_c A R g cap w (by unfold maxLen at hcmg; omega) h)
  have HLrow := fun w h => Lib.hid (Long_c B T row cap2 w (by unfold maxLen at hcmrow; omega) h)
  have HLs := fun w h => Lib.hid (Long_c C S s cap3 w (by unfold maxLen at hcms; omega) h)
  rcases hxg : longB g with _ | _
  rotate_left
  · rw [hxg] at HLg
    go_enter Try.func9, Try.ntmps9
    have hb0 := Below.refl w.heap.size w
    go_wp2_with (fail)
    refine (HLg _ (hg.later hb0)).out.mono ?_
    rintro e w1 ⟨rfl, hbx⟩
    replace hb0 := bl_call hb0 hbx
    clear hbx
    go_wp2_with (fail)
    refine (HK _).out.mono ?_
    rintro e wk ⟨rfl, hbk⟩
    go_wp2_with (fail)
    go_ret
    exact ⟨rfl, bl_call hb0 hbk⟩
  rw [hxg] at HLg
  obtain ⟨hbrg, hlg, hlrg⟩ := brief_of hxg
  rcases hxrow : longB row with _ | _
  rotate_left
  · rw [hxrow] at HLrow
    go_enter Try.func9, Try.ntmps9
    have hb0 := Below.refl w.heap.size w
    go_wp2_with (fail)
    refine (HLg _ (hg.later hb0)).out.mono ?_
    rintro e w1 ⟨rfl, hbx⟩
    replace hb0 := bl_call hb0 hbx
    clear hbx
    go_wp2_with (fail)
    refine (HLrow _ (hrow.later hb0)).out.mono ?_
    rintro e w1 ⟨rfl, hbx⟩
    replace hb0 := bl_call hb0 hbx
    clear hbx
    go_wp2_with (fail)
    refine (HK _).out.mono ?_
    rintro e wk ⟨rfl, hbk⟩
    go_wp2_with (fail)
    go_ret
    exact ⟨rfl, bl_call hb0 hbk⟩
  rw [hxrow] at HLrow
  obtain ⟨hbrrow, hlrow, hlrrow⟩ := brief_of hxrow
  rcases hxs : longB s with _ | _
  rotate_left
  · rw [hxs] at HLs
    go_enter Try.func9, Try.ntmps9
    have hb0 := Below.refl w.heap.size w
    go_wp2_with (fail)
    refine (HLg _ (hg.later hb0)).out.mono ?_
    rintro e w1 ⟨rfl, hbx⟩
    replace hb0 := bl_call hb0 hbx
    clear hbx
    go_wp2_with (fail)
    refine (HLrow _ (hrow.later hb0)).out.mono ?_
    rintro e w1 ⟨rfl, hbx⟩
    replace hb0 := bl_call hb0 hbx
    clear hbx
    go_wp2_with (fail)
    refine (HLs _ (hs.later hb0)).out.mono ?_
    rintro e w1 ⟨rfl, hbx⟩
    replace hb0 := bl_call hb0 hbx
    clear hbx
    go_wp2_with (fail)
    refine (HK _).out.mono ?_
    rintro e wk ⟨rfl, hbk⟩
    go_wp2_with (fail)
    go_ret
    exact ⟨rfl, bl_call hb0 hbk⟩
  rw [hxs] at HLs
  obtain ⟨hbrs, hls, hlrs⟩ := brief_of hxs
  have H1 := fun w h h' k => Lib.hid (CheckCourse_c A B C R T S g row s cap cap2 cap3 w hbrg hbrrow hbrs hcaps h h' k)
  have H2 := fun w h h' k => Lib.hid (rCheckCourse_c A B C R T S g row s cap cap2 cap3 w hbrg hbrrow hbrs h h' k)
  have H3 := fun w h h' => Lib.hid (Smooth_c A B R T g row cap cap2 w hbrg hbrrow h h')
  by_cases hE : (chkG g row s).2 = 0
  · have hrw := chk_row hE
    have hco := (chk_course hrw).1 hE
    obtain ⟨h1, h2⟩ := best_le hco
    rw [← chk_jump hE] at h2
    have hsm : smoG g row = ((bestC g row).2, true) := by unfold smoG; rw [if_pos hrw, h1]
    rw [hsm, hrw, errB_t] at H3
    rw [hE] at H1 H2
    generalize (chkG g row s).1 = a at *
    generalize (bestC g row).2 = n at *
    clear hbrg hlg hlrg hxg hbrrow hlrow hlrrow hxrow hbrs hls hlrs hxs hcapg hcmg hcaprow hcmrow hcaps hcms hE hrw hco h1
    go_enter Try.func9, Try.ntmps9
    have hb0 := Below.refl w.heap.size w
    go_wp2_with (fail)
    refine (HLg _ (hg.later hb0)).out.mono ?_
    rintro e w1 ⟨rfl, hbx⟩
    replace hb0 := bl_call hb0 hbx
    clear hbx
    go_wp2_with (fail)
    refine (HLrow _ (hrow.later hb0)).out.mono ?_
    rintro e w1 ⟨rfl, hbx⟩
    replace hb0 := bl_call hb0 hbx
    clear hbx
    go_wp2_with (fail)
    refine (HLs _ (hs.later hb0)).out.mono ?_
    rintro e w1 ⟨rfl, hbx⟩
    replace hb0 := bl_call hb0 hbx
    clear hbx
    go_wp2_with (fail)
    refine (H1 _ (hg.later hb0) (hrow.later hb0) (hs.later hb0)).out.mono ?_
    rintro e w1 ⟨rfl, hbx⟩
    replace hb0 := bl_call hb0 hbx
    clear hbx
    go_wp2_with (fail)
    refine (H2 _ (hg.later hb0) (hrow.later hb0) (hs.later hb0)).out.mono ?_
    rintro e w1 ⟨rfl, hbx⟩
    replace hb0 := bl_call hb0 hbx
    clear hbx
    go_wp2_with (fail)
    refine (H3 _ (hg.later hb0) (hrow.later hb0)).out.mono ?_
    rintro e w1 ⟨rfl, hbx⟩
    replace hb0 := bl_call hb0 hbx
    clear hbx
    go_wp2_with (fail)
    refine (HK _).out.mono ?_
    rintro e wk ⟨rfl, hbk⟩
    go_wp2_with (fail)
    go_ret
    exact ⟨rfl, bl_call hb0 hbk⟩
  · have hE' : ((chkG g row s).2 == 0) = false := by simpa using hE
    generalize (chkG g row s).1 = a at *
    generalize (chkG g row s).2 = x at *
    clear hbrg hlg hlrg hxg hbrrow hlrow hlrrow hxrow hbrs hls hlrs hxs hcapg hcmg hcaprow hcmrow hcaps hcms
    go_enter Try.func9, Try.ntmps9
    have hb0 := Below.refl w.heap.size w
    go_wp2_with (fail)
    refine (HLg _ (hg.later hb0)).out.mono ?_
    rintro e w1 ⟨rfl, hbx⟩
    replace hb0 := bl_call hb0 hbx
    clear hbx
    go_wp2_with (fail)
    refine (HLrow _ (hrow.later hb0)).out.mono ?_
    rintro e w1 ⟨rfl, hbx⟩
    replace hb0 := bl_call hb0 hbx
    clear hbx
    go_wp2_with (fail)
    refine (HLs _ (hs.later hb0)).out.mono ?_
    rintro e w1 ⟨rfl, hbx⟩
    replace hb0 := bl_call hb0 hbx
    clear hbx
    go_wp2_with (fail)
    refine (H1 _ (hg.later hb0) (hrow.later hb0) (hs.later hb0)).out.mono ?_
    rintro e w1 ⟨rfl, hbx⟩
    replace hb0 := bl_call hb0 hbx
    clear hbx
    go_wp2_with (fail)
    refine (H2 _ (hg.later hb0) (hrow.later hb0) (hs.later hb0)).out.mono ?_
    rintro e w1 ⟨rfl, hbx⟩
    replace hb0 := bl_call hb0 hbx
    clear hbx
    go_wp2_with (fail)
    refine (HK _).out.mono ?_
    rintro e wk ⟨rfl, hbk⟩
    go_wp2_with (fail)
    go_ret
    exact ⟨rfl, bl_call hb0 hbk⟩
end Go.Proofs.Ytmmjdabioolodaa
