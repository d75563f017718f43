/- VoltCalms, walked. -/
import Derived.Test.YtnofeibgnlkkcaaKnw
import Derived.Test.YtnofeibgnlkkcaaRnea
import Derived.Test.YtnofeibgnlkkcaaNea
namespace Go.Proofs.Ytnofeibgnlkkcaa
open Go.RowKit

theorem near_len {g : List (List Int)} {l : List Int} : (nearG g l).2.length ≤ 9223372036854775806 := by
  unfold nearG
  split
  · rename_i h
    obtain ⟨n, u, hs⟩ := near_some g l
    rw [hs]
    have := (mem_volts.1 (nearF_some _ n u hs).1).len
    have := (wayB_iff h).1.wrs
    show u.length ≤ _
    omega
  · simp
theorem calm_near {g : List (List Int)} {l : List Int} (h : wayB g l = true) : ((calmG g l).2 = true ∧ (nearG g l).1 = 0) ∨ ((calmG g l).2 = false ∧ (nearG g l).1 ≠ 0) := by
  obtain ⟨n, u, hs⟩ := near_some g l
  have hz := near_zero (wayB_iff h).2.len hs
  unfold calmG nearG
  rw [if_pos h, if_pos h, ← calm_eq, calm_least _ makers_size, hs]
  by_cases h0 : (makersL g l).length = 0
  · rw [if_pos h0]
    exact .inr ⟨rfl, fun e => by have := hz.1 e; omega⟩
  · rw [if_neg h0]
    exact .inl ⟨rfl, hz.2 (by omega)⟩
set_option maxRecDepth 100000 in
set_option maxHeartbeats 4000000 in
theorem voltCalms_walk (A : Option Addr) (R : Rows) (g : List (List Int)) (cap : Nat) (B : Option Addr) (l : List Int) (c : Nat) (w : World) (hcapg : g.length ≤ cap) (hcmg : cap ≤ maxLen) (hg : RT w A R g) (hl : Rd w B (ints l)) :
    Calls Try.prog 7 #[.slice A g.length cap, .slice B l.length c] w fun e w' => e = .returned (.bool true) ∧ Below w.heap.size w w' := by
  have HK := fun w => Lib.hid (known_c w)
  have HLg := fun w h => Lib.hid (Long_c A R g cap w (by unfold maxLen at hcmg; omega) h)
  have HLl := fun w => Lib.hid (many_c B l.length c w)
  rcases hxg : longB g with _ | _
  rotate_left
  · rw [hxg] at HLg
    go_enter Try.func7, Try.ntmps7
    have hb0 := Below.refl w.heap.size w
    go_wp2_with (fail)
    refine (HLg _ (hg.later hb0)).out.mono ?_
    rintro e w1 ⟨rfl, hbx⟩
    replace hb0 := bl_call hb0 hbx
    clear hbx
    go_wp2_with (fail)
    refine (HK _).out.mono ?_
    rintro e wk ⟨rfl, hbk⟩
    go_wp2_with (fail)
    go_ret
    exact ⟨rfl, bl_call hb0 hbk⟩
  rw [hxg] at HLg
  obtain ⟨hbrg, hlg, hlrg⟩ := brief_of hxg
  by_cases hxl : 40 < l.length
  · rw [decide_eq_true hxl] at HLl
    go_enter Try.func7, Try.ntmps7
    have hb0 := Below.refl w.heap.size w
    go_wp2_with (fail)
    refine (HLg _ (hg.later hb0)).out.mono ?_
    rintro e w1 ⟨rfl, hbx⟩
    replace hb0 := bl_call hb0 hbx
    clear hbx
    go_wp2_with (fail)
    refine (HLl _).out.mono ?_
    rintro e w1 ⟨rfl, rfl⟩
    go_wp2_with (fail)
    refine (HK _).out.mono ?_
    rintro e wk ⟨rfl, hbk⟩
    go_wp2_with (fail)
    go_ret
    exact ⟨rfl, bl_call hb0 hbk⟩
  rw [decide_eq_false hxl] at HLl
  have hll : l.length ≤ 1000 := by omega
  have H1 := fun w h h' => Lib.hid (Calmest_c A B R g l cap c w hbrg hll h h')
  have H2 := fun w h h' => Lib.hid (rCalmest_c A B R g l cap c w hbrg hll h h')
  have H3 := fun w h h' => Lib.hid (Nearest_c A B R g l cap c w hbrg hll h h')
  have H4 := fun w h h' => Lib.hid (rNearest_c A B R g l cap c w hbrg hll h h')
  have H5 := fun A' B' c1 c2 w h h' => Lib.hid (sameInts_c A' B' (nearG g l).2 (nearG g l).2 c1 c2 w near_len h h')
  rw [decide_eq_true rfl] at H5
  have HCN : (wayB g l = false) ∨ (wayB g l = true ∧ (((calmG g l).2 = true ∧ (nearG g l).1 = 0) ∨ ((calmG g l).2 = false ∧ (nearG g l).1 ≠ 0))) := by
    by_cases h : wayB g l = true
    · exact .inr ⟨h, calm_near h⟩
    · exact .inl (by simpa using h)
  generalize wayB g l = x at *
  generalize (calmG g l).1 = a at *
  generalize (calmG g l).2 = b at *
  generalize (nearG g l).1 = n at *
  generalize (nearG g l).2 = u at *
  clear hbrg hlg hlrg hxg hxl hcapg hcmg hll
  rcases HCN with rfl | ⟨rfl, ⟨rfl, rfl⟩ | ⟨rfl, hn⟩⟩
  · rw [errB_f] at H1 H2 H3 H4
    go_enter Try.func7, Try.ntmps7
    have hb0 := Below.refl w.heap.size w
    go_wp2_with (fail)
    refine (HLg _ (hg.later hb0)).out.mono ?_
    rintro e w1 ⟨rfl, hbx⟩
    replace hb0 := bl_call hb0 hbx
    clear hbx
    go_wp2_with (fail)
    refine (HLl _).out.mono ?_
    rintro e w1 ⟨rfl, rfl⟩
    go_wp2_with (fail)
    refine (H1 _ (hg.later hb0) (hl.later hb0)).out.mono ?_
    rintro e w1 ⟨rfl, hbx⟩
    replace hb0 := bl_call hb0 hbx
    clear hbx
    go_wp2_with (fail)
    refine (H2 _ (hg.later hb0) (hl.later hb0)).out.mono ?_
    rintro e w1 ⟨rfl, hbx⟩
    replace hb0 := bl_call hb0 hbx
    clear hbx
    go_wp2_with (fail)
    refine (H3 _ (hg.later hb0) (hl.later hb0)).out.mono ?_
    rintro e w1 ⟨A3, c3, rfl, hr3, hbx⟩
    replace hb0 := bl_call hb0 hbx
    clear hbx
    go_wp2_with (fail)
    refine (H4 _ (hg.later hb0) (hl.later hb0)).out.mono ?_
    rintro e w1 ⟨A4, c4, rfl, hr4, hbx⟩
    replace hb0 := bl_call hb0 hbx
    replace hr3 := hr3.later hbx
    clear hbx
    go_wp2_with (fail)
    refine (H5 _ _ _ _ _ hr3 hr4).out.mono ?_
    rintro e w1 ⟨rfl, hbx⟩
    replace hb0 := bl_call hb0 hbx
    clear hbx hr3 hr4
    go_wp2_with (fail)
    refine (HK _).out.mono ?_
    rintro e wk ⟨rfl, hbk⟩
    go_wp2_with (fail)
    go_ret
    exact ⟨rfl, bl_call hb0 hbk⟩
  · rw [errB_t] at H1 H2 H3 H4
    go_enter Try.func7, Try.ntmps7
    have hb0 := Below.refl w.heap.size w
    go_wp2_with (fail)
    refine (HLg _ (hg.later hb0)).out.mono ?_
    rintro e w1 ⟨rfl, hbx⟩
    replace hb0 := bl_call hb0 hbx
    clear hbx
    go_wp2_with (fail)
    refine (HLl _).out.mono ?_
    rintro e w1 ⟨rfl, rfl⟩
    go_wp2_with (fail)
    refine (H1 _ (hg.later hb0) (hl.later hb0)).out.mono ?_
    rintro e w1 ⟨rfl, hbx⟩
    replace hb0 := bl_call hb0 hbx
    clear hbx
    go_wp2_with (fail)
    refine (H2 _ (hg.later hb0) (hl.later hb0)).out.mono ?_
    rintro e w1 ⟨rfl, hbx⟩
    replace hb0 := bl_call hb0 hbx
    clear hbx
    go_wp2_with (fail)
    refine (H3 _ (hg.later hb0) (hl.later hb0)).out.mono ?_
    rintro e w1 ⟨A3, c3, rfl, hr3, hbx⟩
    replace hb0 := bl_call hb0 hbx
    clear hbx
    go_wp2_with (fail)
    refine (H4 _ (hg.later hb0) (hl.later hb0)).out.mono ?_
    rintro e w1 ⟨A4, c4, rfl, hr4, hbx⟩
    replace hb0 := bl_call hb0 hbx
    replace hr3 := hr3.later hbx
    clear hbx
    go_wp2_with (fail)
    refine (H5 _ _ _ _ _ hr3 hr4).out.mono ?_
    rintro e w1 ⟨rfl, hbx⟩
    replace hb0 := bl_call hb0 hbx
    clear hbx hr3 hr4
    go_wp2_with (fail)
    refine (HK _).out.mono ?_
    rintro e wk ⟨rfl, hbk⟩
    go_wp2_with (fail)
    go_ret
    exact ⟨rfl, bl_call hb0 hbk⟩
  · rw [errB_t] at H1 H2 H3 H4
    have hn' : (n == 0) = false := by simpa using hn
    go_enter Try.func7, Try.ntmps7
    have hb0 := Below.refl w.heap.size w
    go_wp2_with (fail)
    refine (HLg _ (hg.later hb0)).out.mono ?_
    rintro e w1 ⟨rfl, hbx⟩
    replace hb0 := bl_call hb0 hbx
    clear hbx
    go_wp2_with (fail)
    refine (HLl _).out.mono ?_
    rintro e w1 ⟨rfl, rfl⟩
    go_wp2_with (fail)
    refine (H1 _ (hg.later hb0) (hl.later hb0)).out.mono ?_
    rintro e w1 ⟨rfl, hbx⟩
    replace hb0 := bl_call hb0 hbx
    clear hbx
    go_wp2_with (fail)
    refine (H2 _ (hg.later hb0) (hl.later hb0)).out.mono ?_
    rintro e w1 ⟨rfl, hbx⟩
    replace hb0 := bl_call hb0 hbx
    clear hbx
    go_wp2_with (fail)
    refine (H3 _ (hg.later hb0) (hl.later hb0)).out.mono ?_
    rintro e w1 ⟨A3, c3, rfl, hr3, hbx⟩
    replace hb0 := bl_call hb0 hbx
    clear hbx
    go_wp2_with (fail)
    refine (H4 _ (hg.later hb0) (hl.later hb0)).out.mono ?_
    rintro e w1 ⟨A4, c4, rfl, hr4, hbx⟩
    replace hb0 := bl_call hb0 hbx
    replace hr3 := hr3.later hbx
    clear hbx
    go_wp2_with (fail)
    refine (H5 _ _ _ _ _ hr3 hr4).out.mono ?_
    rintro e w1 ⟨rfl, hbx⟩
    replace hb0 := bl_call hb0 hbx
    clear hbx hr3 hr4
    go_wp2_with (fail)
    refine (HK _).out.mono ?_
    rintro e wk ⟨rfl, hbk⟩
    go_wp2_with (fail)
    go_ret
    exact ⟨rfl, bl_call hb0 hbk⟩
end Go.Proofs.Ytnofeibgnlkkcaa
