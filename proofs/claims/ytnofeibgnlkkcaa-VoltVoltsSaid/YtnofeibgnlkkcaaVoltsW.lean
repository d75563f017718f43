/- VoltVolts, walked. -/
import Derived.Test.YtnofeibgnlkkcaaKnw
import Derived.Test.YtnofeibgnlkkcaaRway
import Derived.Test.YtnofeibgnlkkcaaVol
import Derived.Test.YtnofeibgnlkkcaaChv
namespace Go.Proofs.Ytnofeibgnlkkcaa
open Go.RowKit

theorem volt_no {g : List (List Int)} {l : List Int} (h : voltG g l = none) : wayG g l = 0 := by
  unfold voltG at h; unfold wayG
  split
  · rename_i hw; rw [if_pos hw, List.head?_eq_none_iff] at h; rw [h]; rfl
  · rfl
theorem volt_yes {g : List (List Int)} {l u : List Int} (h : voltG g l = some u) : 0 < wayG g l ∧ u.length ≤ 1000 ∧ chvE g l u = 0 := by
  unfold voltG at h; unfold wayG chvE
  by_cases hw : wayB g l = true
  · rw [if_pos hw] at h
    have hm : u ∈ makersL g l := List.mem_of_mem_head? (by rw [h]; rfl)
    obtain ⟨hv, hf⟩ := mem_makers.1 hm
    have hg := (wayB_iff hw).1
    refine ⟨by rw [if_pos hw]; have := List.length_pos_of_mem hm; omega, by rw [hv.len]; have := hg.wrs; omega, ?_⟩
    rw [hw, show okL g u = true from (okN_iff (by decide)).2 hv, makeB_iff.2 hf]; rfl
  · rw [if_neg hw] at h; cases h
set_option maxRecDepth 100000 in
set_option maxHeartbeats 4000000 in
theorem voltVolts_walk (A : Option Addr) (R : Rows) (g : List (List Int)) (cap : Nat) (B : Option Addr) (l : List Int) (c : Nat) (D : Option Addr) (v : List Int) (d : Nat) (w : World) (hcapg : g.length ≤ cap) (hcmg : cap ≤ maxLen) (hg : RT w A R g) (hl : Rd w B (ints l)) (hv : Rd w D (ints v)) :
    Calls Try.prog 4 #[.slice A g.length cap, .slice B l.length c, .slice D v.length d] w fun e w' => e = .returned (.bool true) ∧ Below w.heap.size w w' := by
  have HK := fun w => Lib.hid (known_c w)
  have HLg := fun w h => Lib.hid (Long_c A R g cap w (by unfold maxLen at hcmg; omega) h)
  have HLl := fun w => Lib.hid (many_c B l.length c w)
  have HLv := fun w => Lib.hid (many_c D v.length d w)
  rcases hxg : longB g with _ | _
  rotate_left
  · rw [hxg] at HLg
    go_enter Try.func4, Try.ntmps4
    have hb0 := Below.refl w.heap.size w
    go_wp2_with (fail)
    refine (HLg _ (hg.later hb0)).out.mono ?_
    rintro e w1 ⟨rfl, hbx⟩
    replace hb0 := bl_call hb0 hbx
    clear hbx
    go_wp2_with (fail)
    refine (HK _).out.mono ?_
    rintro e wk ⟨rfl, hbk⟩
    go_wp2_with (fail)
    go_ret
    exact ⟨rfl, bl_call hb0 hbk⟩
  rw [hxg] at HLg
  obtain ⟨hbrg, hlg, hlrg⟩ := brief_of hxg
  by_cases hxl : 40 < l.length
  · rw [decide_eq_true hxl] at HLl
    go_enter Try.func4, Try.ntmps4
    have hb0 := Below.refl w.heap.size w
    go_wp2_with (fail)
    refine (HLg _ (hg.later hb0)).out.mono ?_
    rintro e w1 ⟨rfl, hbx⟩
    replace hb0 := bl_call hb0 hbx
    clear hbx
    go_wp2_with (fail)
    refine (HLl _).out.mono ?_
    rintro e w1 ⟨rfl, rfl⟩
    go_wp2_with (fail)
    refine (HK _).out.mono ?_
    rintro e wk ⟨rfl, hbk⟩
    go_wp2_with (fail)
    go_ret
    exact ⟨rfl, bl_call hb0 hbk⟩
  rw [decide_eq_false hxl] at HLl
  have hll : l.length ≤ 1000 := by omega
  by_cases hxv : 40 < v.length
  · rw [decide_eq_true hxv] at HLv
    go_enter Try.func4, Try.ntmps4
    have hb0 := Below.refl w.heap.size w
    go_wp2_with (fail)
    refine (HLg _ (hg.later hb0)).out.mono ?_
    rintro e w1 ⟨rfl, hbx⟩
    replace hb0 := bl_call hb0 hbx
    clear hbx
    go_wp2_with (fail)
    refine (HLl _).out.mono ?_
    rintro e w1 ⟨rfl, rfl⟩
    go_wp2_with (fail)
    refine (HLv _).out.mono ?_
    rintro e w1 ⟨rfl, rfl⟩
    go_wp2_with (fail)
    refine (HK _).out.mono ?_
    rintro e wk ⟨rfl, hbk⟩
    go_wp2_with (fail)
    go_ret
    exact ⟨rfl, bl_call hb0 hbk⟩
  rw [decide_eq_false hxv] at HLv
  have hlv : v.length ≤ 1000 := by omega
  have H1 := fun w h h' k => Lib.hid (CheckVolts_c A B D R g l v cap c d w hbrg hll hlv h h' k)
  have H2 := fun w h h' k => Lib.hid (rCheckVolts_c A B D R g l v cap c d w hbrg hll hlv h h' k)
  have H3 := fun w h h' => Lib.hid (Volts_c A B R g l cap c w hbrg hll h h')
  have H4 := fun w h h' => Lib.hid (rWays_c A B R g l cap c w hbrg hll h h')
  unfold OutS at H3
  generalize chvE g l v = E at *
  rcases hV : voltG g l with _ | u
  · have hn : wayG g l = 0 := volt_no hV
    rw [hV] at H3
    rw [hn] at H4
    generalize errB (wayB g l) = X at *
    simp only [found, Option.getD_none, Option.isSome_none, List.length_nil] at H3
    clear hn hV hbrg hlg hlrg hxg hxv hxl hcapg hcmg hlv hll
    go_enter Try.func4, Try.ntmps4
    have hb0 := Below.refl w.heap.size w
    go_wp2_with (fail)
    refine (HLg _ (hg.later hb0)).out.mono ?_
    rintro e w1 ⟨rfl, hbx⟩
    replace hb0 := bl_call hb0 hbx
    clear hbx
    go_wp2_with (fail)
    refine (HLl _).out.mono ?_
    rintro e w1 ⟨rfl, rfl⟩
    go_wp2_with (fail)
    refine (HLv _).out.mono ?_
    rintro e w1 ⟨rfl, rfl⟩
    go_wp2_with (fail)
    refine (H1 _ (hg.later hb0) (hl.later hb0) (hv.later hb0)).out.mono ?_
    rintro e w1 ⟨rfl, hbx⟩
    replace hb0 := bl_call hb0 hbx
    clear hbx
    go_wp2_with (fail)
    refine (H2 _ (hg.later hb0) (hl.later hb0) (hv.later hb0)).out.mono ?_
    rintro e w1 ⟨rfl, hbx⟩
    replace hb0 := bl_call hb0 hbx
    clear hbx
    go_wp2_with (fail)
    refine (H3 _ (hg.later hb0) (hl.later hb0)).out.mono ?_
    rintro e w1 ⟨A1, c1, rfl, hr1, hbx⟩
    replace hb0 := bl_call hb0 hbx
    clear hbx
    go_wp2_with (fail)
    refine (H4 _ (hg.later hb0) (hl.later hb0)).out.mono ?_
    rintro e w1 ⟨rfl, hbx⟩
    replace hb0 := bl_call hb0 hbx
    replace hr1 := hr1.later hbx
    clear hbx
    go_wp2_with (fail)
    refine (HK _).out.mono ?_
    rintro e wk ⟨rfl, hbk⟩
    go_wp2_with (fail)
    go_ret
    exact ⟨rfl, bl_call hb0 hbk⟩
  · have hn := volt_yes hV
    have H5 := fun A' c1 w h h' k => Lib.hid (rCheckVolts_c A B A' R g l u cap c c1 w hbrg hll hn.2.1 h h' k)
    rw [hn.2.2] at H5
    have hpos : 0 < wayG g l := hn.1
    rw [hV] at H3
    generalize errB (wayB g l) = X at *
    generalize wayG g l = n at *
    simp only [found, Option.getD_some, Option.isSome_some] at H3
    clear hn hV hbrg hlg hlrg hxg hxv hxl hcapg hcmg hlv hll
    go_enter Try.func4, Try.ntmps4
    have hb0 := Below.refl w.heap.size w
    go_wp2_with (fail)
    refine (HLg _ (hg.later hb0)).out.mono ?_
    rintro e w1 ⟨rfl, hbx⟩
    replace hb0 := bl_call hb0 hbx
    clear hbx
    go_wp2_with (fail)
    refine (HLl _).out.mono ?_
    rintro e w1 ⟨rfl, rfl⟩
    go_wp2_with (fail)
    refine (HLv _).out.mono ?_
    rintro e w1 ⟨rfl, rfl⟩
    go_wp2_with (fail)
    refine (H1 _ (hg.later hb0) (hl.later hb0) (hv.later hb0)).out.mono ?_
    rintro e w1 ⟨rfl, hbx⟩
    replace hb0 := bl_call hb0 hbx
    clear hbx
    go_wp2_with (fail)
    refine (H2 _ (hg.later hb0) (hl.later hb0) (hv.later hb0)).out.mono ?_
    rintro e w1 ⟨rfl, hbx⟩
    replace hb0 := bl_call hb0 hbx
    clear hbx
    go_wp2_with (fail)
    refine (H3 _ (hg.later hb0) (hl.later hb0)).out.mono ?_
    rintro e w1 ⟨A1, c1, rfl, hr1, hbx⟩
    replace hb0 := bl_call hb0 hbx
    clear hbx
    go_wp2_with (fail)
    refine (H4 _ (hg.later hb0) (hl.later hb0)).out.mono ?_
    rintro e w1 ⟨rfl, hbx⟩
    replace hb0 := bl_call hb0 hbx
    replace hr1 := hr1.later hbx
    clear hbx
    go_wp2_with (fail)
    refine (H5 _ _ _ (hg.later hb0) (hl.later hb0) hr1).out.mono ?_
    rintro e w1 ⟨rfl, hbx⟩
    replace hb0 := bl_call hb0 hbx
    clear hbx
    go_wp2_with (fail)
    refine (HK _).out.mono ?_
    rintro e wk ⟨rfl, hbk⟩
    go_wp2_with (fail)
    go_ret
    exact ⟨rfl, bl_call hb0 hbk⟩
end Go.Proofs.Ytnofeibgnlkkcaa
