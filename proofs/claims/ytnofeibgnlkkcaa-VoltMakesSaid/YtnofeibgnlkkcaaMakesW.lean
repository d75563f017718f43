/- VoltMakes, walked. -/
import Derived.Test.YtnofeibgnlkkcaaKnw
import Derived.Test.YtnofeibgnlkkcaaChv
namespace Go.Proofs.Ytnofeibgnlkkcaa
open Go.RowKit

theorem makes_ok {g : List (List Int)} {v : List Int} (h : okG g = true) (hv : okL g v = true) : fieldG g v = fieldL g v ∧ wayB g (fieldL g v) = true ∧ 1 ≤ wayG g (fieldL g v) ∧ (calmG g (fieldL g v)).2 = true ∧ (calmG g (fieldL g v)).1 ≤ sizeL v ∧ chvE g (fieldL g v) v = 0 := by
  have hg := okG_iff.1 h
  have hvo : OkV v (wires g) 3 := (okN_iff (by decide)).1 hv
  have hF := field_bound hg hvo
  have hw : wayB g (fieldL g v) = true := by
    unfold wayB
    rw [h, show okW g (fieldL g v) = true from (okN_iff (by decide)).2 ⟨hF.len, fun k => by have := hF.at_ k; omega⟩]; rfl
  have hm : v ∈ makersL g (fieldL g v) := mem_makers.2 ⟨hvo, rfl⟩
  have hpos := List.length_pos_of_mem hm
  refine ⟨by unfold fieldG; rw [h, hv]; rfl, hw, by unfold wayG; rw [if_pos hw]; omega, ?_⟩
  have hc : calmG g (fieldL g v) = (leastF (makersL g (fieldL g v)), true) := by
    unfold calmG
    rw [if_pos hw, ← calm_eq, calm_least _ makers_size, if_neg (by omega)]
  refine ⟨by rw [hc], by rw [hc]; exact (leastF_le _).2 v hm, ?_⟩
  unfold chvE
  rw [hw, hv, makeB_iff.2 rfl]; rfl
set_option maxRecDepth 100000 in
set_option maxHeartbeats 4000000 in
theorem voltMakes_walk (A : Option Addr) (R : Rows) (g : List (List Int)) (cap : Nat) (B : Option Addr) (v : List Int) (c : Nat) (w : World) (hcapg : g.length ≤ cap) (hcmg : cap ≤ maxLen) (hg : RT w A R g) (hv : Rd w B (ints v)) :
    Calls Try.prog 14 #[.slice A g.length cap, .slice B v.length c] w fun e w' => e = .returned (.bool true) ∧ Below w.heap.size w w' := by
  have HK := fun w => Lib.hid (known_c w)
  have HLg := fun w h => Lib.hid (Long_c A R g cap w (by unfold maxLen at hcmg; omega) h)
  have HLv := fun w => Lib.hid (many_c B v.length c w)
  rcases hxg : longB g with _ | _
  rotate_left
  · rw [hxg] at HLg
    go_enter Try.func14, Try.ntmps14
    have hb0 := Below.refl w.heap.size w
    go_wp2_with (fail)
    refine (HLg _ (hg.later hb0)).out.mono ?_
    rintro e w1 ⟨rfl, hbx⟩
    replace hb0 := bl_call hb0 hbx
    clear hbx
    go_wp2_with (fail)
    refine (HK _).out.mono ?_
    rintro e wk ⟨rfl, hbk⟩
    go_wp2_with (fail)
    go_ret
    exact ⟨rfl, bl_call hb0 hbk⟩
  rw [hxg] at HLg
  obtain ⟨hbrg, hlg, hlrg⟩ := brief_of hxg
  by_cases hxv : 40 < v.length
  · rw [decide_eq_true hxv] at HLv
    go_enter Try.func14, Try.ntmps14
    have hb0 := Below.refl w.heap.size w
    go_wp2_with (fail)
    refine (HLg _ (hg.later hb0)).out.mono ?_
    rintro e w1 ⟨rfl, hbx⟩
    replace hb0 := bl_call hb0 hbx
    clear hbx
    go_wp2_with (fail)
    refine (HLv _).out.mono ?_
    rintro e w1 ⟨rfl, rfl⟩
    go_wp2_with (fail)
    refine (HK _).out.mono ?_
    rintro e wk ⟨rfl, hbk⟩
    go_wp2_with (fail)
    go_ret
    exact ⟨rfl, bl_call hb0 hbk⟩
  rw [decide_eq_false hxv] at HLv
  have hlv : v.length ≤ 1000 := by omega
  have H1 := fun w h h' => Lib.hid (Field_c A B R g v cap c w hbrg hlv h h')
  unfold OutI at H1
  rcases hok : (okG g && okL g v) with _ | _
  · rw [hok, errB_f] at H1
    generalize fieldG g v = F at *
    clear hbrg hlg hlrg hxg hxv hcapg hcmg hlv hok
    go_enter Try.func14, Try.ntmps14
    have hb0 := Below.refl w.heap.size w
    go_wp2_with (fail)
    refine (HLg _ (hg.later hb0)).out.mono ?_
    rintro e w1 ⟨rfl, hbx⟩
    replace hb0 := bl_call hb0 hbx
    clear hbx
    go_wp2_with (fail)
    refine (HLv _).out.mono ?_
    rintro e w1 ⟨rfl, rfl⟩
    go_wp2_with (fail)
    refine (H1 _ (hg.later hb0) (hv.later hb0)).out.mono ?_
    rintro e w1 ⟨A1, c1, rfl, ho1, hbx⟩
    replace hb0 := bl_call hb0 hbx
    have hr1 := (own_rd ho1).1
    clear ho1 hbx
    go_wp2_with (fail)
    refine (HK _).out.mono ?_
    rintro e wk ⟨rfl, hbk⟩
    go_wp2_with (fail)
    go_ret
    exact ⟨rfl, bl_call hb0 hbk⟩
  · rw [hok, errB_t] at H1
    rw [Bool.and_eq_true] at hok
    obtain ⟨hFG, hW, hn, hc2, hm, hE⟩ := makes_ok hok.1 hok.2
    have hvo : OkV v (wires g) 3 := (okN_iff (by decide)).1 hok.2
    have hpt := (okG_iff.1 hok.1).pts
    have hwr := (okG_iff.1 hok.1).wrs
    have hF3 : (fieldL g v).length ≤ 1000 := by simp; omega
    have hv3 : v.length ≤ 3 := by rw [hvo.len]; omega
    rw [hFG] at H1
    have H2 := fun A' c' w h h' => Lib.hid (Ways_c A A' R g (fieldL g v) cap c' w hbrg hF3 h h')
    have H3 := fun A' c' w h h' => Lib.hid (Calmest_c A A' R g (fieldL g v) cap c' w hbrg hF3 h h')
    have H4 := fun A' c' w h h' k => Lib.hid (CheckVolts_c A A' B R g (fieldL g v) v cap c' c w hbrg hF3 hlv h h' k)
    rw [hW, errB_t] at H2 H3
    rw [hc2] at H3
    rw [hE] at H4
    have HB := Lib.hid (fun k => hvo.at_ k)
    have HZ : Hid (sizeL v = sizeTo v v.length) := rfl
    have HSZ : Hid (∀ k, sizeTo v (k + 1) = max (max (sizeTo v k) (v.getD k 0)) (-(v.getD k 0))) := fun k => rfl
    have H0 : Hid (sizeTo v 0 = 0) := rfl
    generalize wayG g (fieldL g v) = n at *
    generalize (calmG g (fieldL g v)).1 = m at *
    generalize fieldL g v = F at *
    replace hm := Lib.hid hm
    clear hbrg hlg hlrg hxg hxv hcapg hcmg hlv hok hFG hW hc2 hE hvo hpt hwr hF3
    go_enter Try.func14, Try.ntmps14
    have hb0 := Below.refl w.heap.size w
    go_wp2_with (fail)
    refine (HLg _ (hg.later hb0)).out.mono ?_
    rintro e w1 ⟨rfl, hbx⟩
    replace hb0 := bl_call hb0 hbx
    clear hbx
    go_wp2_with (fail)
    refine (HLv _).out.mono ?_
    rintro e w1 ⟨rfl, rfl⟩
    go_wp2_with (fail)
    refine (H1 _ (hg.later hb0) (hv.later hb0)).out.mono ?_
    rintro e w1 ⟨A1, c1, rfl, ho1, hbx⟩
    replace hb0 := bl_call hb0 hbx
    have hr1 := (own_rd ho1).1
    clear ho1 hbx
    go_wp2_with (fail)
    refine (H2 _ _ _ (hg.later hb0) hr1).out.mono ?_
    rintro e w1 ⟨rfl, hbx⟩
    replace hb0 := bl_call hb0 hbx
    replace hr1 := hr1.later hbx
    clear hbx
    go_wp2_with (fail)
    refine (H3 _ _ _ (hg.later hb0) hr1).out.mono ?_
    rintro e w1 ⟨rfl, hbx⟩
    replace hb0 := bl_call hb0 hbx
    replace hr1 := hr1.later hbx
    clear hbx
    go_wp2_with (fail)
    clear H1 H2 H3
    obtain ⟨w0, hw0⟩ : ∃ w0, w0 = w1 := ⟨_, rfl⟩
    rw [← hw0] at hb0 hr1 ⊢
    clear hw0
    go_loopg [12, 13] v.length (fun gk fv iv wr => ∃ k : Nat, Hid (k + gk = v.length) ∧ iv = .int .i64 (k : Int) ∧ fv = .int .i64 (sizeTo v k) ∧ Below w.heap.size w wr ∧ Rd wr A1 (ints F))
    case atStart => exact ⟨0, by simp [Hid], rfl, by rw [H0.out], hb0, hr1⟩
    case round =>
      clear hb0 hr1
      obtain ⟨k, HK', rfl, rfl, hb0, hr1⟩ := hrel
      rcases gk with _ | gi
      · obtain rfl : k = v.length := HK'.out
        have hm' := hm.out
        rw [HZ.out] at hm'
        generalize sizeTo v v.length = z at *
        go_wp2_with (fail)
        refine (H4 _ _ _ (hg.later hb0) hr1 (hv.later hb0)).out.mono ?_
        rintro e w1 ⟨rfl, hbx⟩
        replace hb0 := bl_call hb0 hbx
        clear hbx hr1
        go_wp2_with (fail)
        refine (HK _).out.mono ?_
        rintro e wk ⟨rfl, hbk⟩
        go_wp2_with (fail)
        go_ret
        exact ⟨rfl, bl_call hb0 hbk⟩
      · have hkN : k < v.length := by have := HK'.out; omega
        have hkN' : (k : Int) < (v.length : Int) := by omega
        obtain ⟨b1, o1, rfl, _, c1⟩ := (hv.later hb0).one hkN
        obtain ⟨s1, s2⟩ := HB.out k
        have HSk := Lib.hid (HSZ.out k)
        generalize hx : sizeTo v k = x at HSk
        generalize v.getD k 0 = y at *
        have q1 : wrap64 (-y) = -y := IntWalk.wrap64_in _ ⟨by omega, by omega⟩
        go_wp2_with (fail)
        go_quiet (fail)
        all_goals go_wp2_with (fail)
        all_goals
          go_roundg gi
          case rel => exact ⟨k + 1, by have := HK'.out; show _ = _; omega, by go_num, by rw [HSk.out]; exact congrArg _ (by omega), below_drewN hb0 _, hr1.later (below_drewN (Below.refl _ _) _)⟩
          case measure => omega
end Go.Proofs.Ytnofeibgnlkkcaa
