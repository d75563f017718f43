/- VoltFields, walked. -/
import Derived.Test.YtnofeibgnlkkcaaKnw
import Derived.Test.YtnofeibgnlkkcaaRway
import Derived.Test.YtnofeibgnlkkcaaRval
namespace Go.Proofs.Ytnofeibgnlkkcaa
open Go.RowKit

set_option maxRecDepth 100000 in
set_option maxHeartbeats 4000000 in
theorem voltFields_walk (A : Option Addr) (R : Rows) (g : List (List Int)) (cap : Nat) (B : Option Addr) (v : List Int) (c : Nat) (w : World) (hcapg : g.length ≤ cap) (hcmg : cap ≤ maxLen) (hg : RT w A R g) (hv : Rd w B (ints v)) :
    Calls Try.prog 3 #[.slice A g.length cap, .slice B v.length c] w fun e w' => e = .returned (.bool true) ∧ Below w.heap.size w w' := by
  have HK := fun w => Lib.hid (known_c w)
  have HLg := fun w h => Lib.hid (Long_c A R g cap w (by unfold maxLen at hcmg; omega) h)
  have HLv := fun w => Lib.hid (many_c B v.length c w)
  rcases hxg : longB g with _ | _
  rotate_left
  · rw [hxg] at HLg
    go_enter Try.func3, Try.ntmps3
    have hb0 := Below.refl w.heap.size w
    go_wp2_with (fail)
    refine (HLg _ (hg.later hb0)).out.mono ?_
    rintro e w1 ⟨rfl, hbx⟩
    replace hb0 := bl_call hb0 hbx
    clear hbx
    go_wp2_with (fail)
    refine (HK _).out.mono ?_
    rintro e wk ⟨rfl, hbk⟩
    go_wp2_with (fail)
    go_ret
    exact ⟨rfl, bl_call hb0 hbk⟩
  rw [hxg] at HLg
  obtain ⟨hbrg, hlg, hlrg⟩ := brief_of hxg
  by_cases hxv : 40 < v.length
  · rw [decide_eq_true hxv] at HLv
    go_enter Try.func3, Try.ntmps3
    have hb0 := Below.refl w.heap.size w
    go_wp2_with (fail)
    refine (HLg _ (hg.later hb0)).out.mono ?_
    rintro e w1 ⟨rfl, hbx⟩
    replace hb0 := bl_call hb0 hbx
    clear hbx
    go_wp2_with (fail)
    refine (HLv _).out.mono ?_
    rintro e w1 ⟨rfl, rfl⟩
    go_wp2_with (fail)
    refine (HK _).out.mono ?_
    rintro e wk ⟨rfl, hbk⟩
    go_wp2_with (fail)
    go_ret
    exact ⟨rfl, bl_call hb0 hbk⟩
  rw [decide_eq_false hxv] at HLv
  have hlv : v.length ≤ 1000 := by omega
  have H1 := fun w h h' => Lib.hid (Field_c A B R g v cap c w hbrg hlv h h')
  have H2 := fun w h h' => Lib.hid (rField_c A B R g v cap c w hbrg hlv h h')
  have H3 := fun w h => Lib.hid (Validate_c A R g cap w hbrg h)
  have H4 := fun w h => Lib.hid (rValidate_c A R g cap w hbrg h)
  have hF : (fieldG g v).length ≤ 9223372036854775806 := by unfold fieldG; split <;> simp <;> omega
  have H5 := fun A' B' c1 c2 w h h' => Lib.hid (sameInts_c A' B' (fieldG g v) (fieldG g v) c1 c2 w hF h h')
  rw [decide_eq_true rfl] at H5
  unfold OutI at H1 H2
  generalize errB (okG g && okL g v) = E at *
  generalize errB (okG g) = X at *
  generalize fieldG g v = F at *
  clear hF hbrg hlg hlrg hxg hxv hcapg hcmg hlv
  go_enter Try.func3, Try.ntmps3
  have hb0 := Below.refl w.heap.size w
  go_wp2_with (fail)
  refine (HLg _ (hg.later hb0)).out.mono ?_
  rintro e w1 ⟨rfl, hbx⟩
  replace hb0 := bl_call hb0 hbx
  clear hbx
  go_wp2_with (fail)
  refine (HLv _).out.mono ?_
  rintro e w1 ⟨rfl, rfl⟩
  go_wp2_with (fail)
  refine (H1 _ (hg.later hb0) (hv.later hb0)).out.mono ?_
  rintro e w1 ⟨A1, c1, rfl, ho1, hbx⟩
  replace hb0 := bl_call hb0 hbx
  have hr1 := (own_rd ho1).1
  clear ho1 hbx
  go_wp2_with (fail)
  refine (H2 _ (hg.later hb0) (hv.later hb0)).out.mono ?_
  rintro e w1 ⟨A2, c2, rfl, ho2, hbx⟩
  replace hb0 := bl_call hb0 hbx
  have hr2 := (own_rd ho2).1
  replace hr1 := hr1.later hbx
  clear ho2 hbx
  go_wp2_with (fail)
  refine (H3 _ (hg.later hb0)).out.mono ?_
  rintro e w1 ⟨rfl, hbx⟩
  replace hb0 := bl_call hb0 hbx
  replace hr1 := hr1.later hbx
  replace hr2 := hr2.later hbx
  clear hbx
  go_wp2_with (fail)
  refine (H4 _ (hg.later hb0)).out.mono ?_
  rintro e w1 ⟨rfl, hbx⟩
  replace hb0 := bl_call hb0 hbx
  replace hr1 := hr1.later hbx
  replace hr2 := hr2.later hbx
  clear hbx
  go_wp2_with (fail)
  refine (H5 _ _ _ _ _ hr1 hr2).out.mono ?_
  rintro e w1 ⟨rfl, hbx⟩
  replace hb0 := bl_call hb0 hbx
  clear hbx hr1 hr2
  go_wp2_with (fail)
  refine (HK _).out.mono ?_
  rintro e wk ⟨rfl, hbk⟩
  go_wp2_with (fail)
  go_ret
  exact ⟨rfl, bl_call hb0 hbk⟩
end Go.Proofs.Ytnofeibgnlkkcaa
