/- VoltWays, walked. -/
import Derived.Test.YtnofeibgnlkkcaaKnw
import Derived.Test.YtnofeibgnlkkcaaRway
namespace Go.Proofs.Ytnofeibgnlkkcaa
open Go.RowKit

theorem ways_neg {g : List (List Int)} {l : List Int} (h : wayB g l = true) : wayB g (negL l) = true ∧ wayG g (negL l) = wayG g l := by
  obtain ⟨hg, hw⟩ := wayB_iff h
  have h2 : wayB g (negL l) = true := by
    unfold wayB
    rw [okG_iff.2 hg, show okW g (negL l) = true from (okN_iff (by decide)).2 (ok_neg hw)]; rfl
  refine ⟨h2, ?_⟩
  unfold wayG
  rw [if_pos h, if_pos h2, makers_neg]
theorem neg_take {l : List Int} {k : Nat} (h : k < l.length) : (negL l).take (k + 1) = (negL l).take k ++ [-(l.getD k 0)] := by
  rw [List.take_add_one, List.getElem?_eq_getElem (by simpa using h)]
  simp [negL, h]
set_option maxRecDepth 100000 in
set_option maxHeartbeats 4000000 in
theorem voltWays_walk (A : Option Addr) (R : Rows) (g : List (List Int)) (cap : Nat) (B : Option Addr) (l : List Int) (c : Nat) (w : World) (hcapg : g.length ≤ cap) (hcmg : cap ≤ maxLen) (hg : RT w A R g) (hl : Rd w B (ints l)) :
    Calls Try.prog 5 #[.slice A g.length cap, .slice B l.length c] w fun e w' => e = .returned (.bool true) ∧ Below w.heap.size w w' := by
  have HK := fun w => Lib.hid (known_c w)
  have HLg := fun w h => Lib.hid (Long_c A R g cap w (by unfold maxLen at hcmg; omega) h)
  have HLl := fun w => Lib.hid (many_c B l.length c w)
  rcases hxg : longB g with _ | _
  rotate_left
  · rw [hxg] at HLg
    go_enter Try.func5, Try.ntmps5
    have hb0 := Below.refl w.heap.size w
    go_wp2_with (fail)
    refine (HLg _ (hg.later hb0)).out.mono ?_
    rintro e w1 ⟨rfl, hbx⟩
    replace hb0 := bl_call hb0 hbx
    clear hbx
    go_wp2_with (fail)
    refine (HK _).out.mono ?_
    rintro e wk ⟨rfl, hbk⟩
    go_wp2_with (fail)
    go_ret
    exact ⟨rfl, bl_call hb0 hbk⟩
  rw [hxg] at HLg
  obtain ⟨hbrg, hlg, hlrg⟩ := brief_of hxg
  by_cases hxl : 40 < l.length
  · rw [decide_eq_true hxl] at HLl
    go_enter Try.func5, Try.ntmps5
    have hb0 := Below.refl w.heap.size w
    go_wp2_with (fail)
    refine (HLg _ (hg.later hb0)).out.mono ?_
    rintro e w1 ⟨rfl, hbx⟩
    replace hb0 := bl_call hb0 hbx
    clear hbx
    go_wp2_with (fail)
    refine (HLl _).out.mono ?_
    rintro e w1 ⟨rfl, rfl⟩
    go_wp2_with (fail)
    refine (HK _).out.mono ?_
    rintro e wk ⟨rfl, hbk⟩
    go_wp2_with (fail)
    go_ret
    exact ⟨rfl, bl_call hb0 hbk⟩
  rw [decide_eq_false hxl] at HLl
  have hll : l.length ≤ 1000 := by omega
  have H1 := fun w h h' => Lib.hid (Ways_c A B R g l cap c w hbrg hll h h')
  have H2 := fun w h h' => Lib.hid (rWays_c A B R g l cap c w hbrg hll h h')
  rcases hW : wayB g l with _ | _
  · rw [hW, errB_f] at H1 H2
    generalize wayG g l = n at *
    clear hbrg hlg hlrg hxg hxl hcapg hcmg hll hW
    go_enter Try.func5, Try.ntmps5
    have hb0 := Below.refl w.heap.size w
    go_wp2_with (fail)
    refine (HLg _ (hg.later hb0)).out.mono ?_
    rintro e w1 ⟨rfl, hbx⟩
    replace hb0 := bl_call hb0 hbx
    clear hbx
    go_wp2_with (fail)
    refine (HLl _).out.mono ?_
    rintro e w1 ⟨rfl, rfl⟩
    go_wp2_with (fail)
    refine (H1 _ (hg.later hb0) (hl.later hb0)).out.mono ?_
    rintro e w1 ⟨rfl, hbx⟩
    replace hb0 := bl_call hb0 hbx
    clear hbx
    go_wp2_with (fail)
    refine (H2 _ (hg.later hb0) (hl.later hb0)).out.mono ?_
    rintro e w1 ⟨rfl, hbx⟩
    replace hb0 := bl_call hb0 hbx
    clear hbx
    go_wp2_with (fail)
    refine (HK _).out.mono ?_
    rintro e wk ⟨rfl, hbk⟩
    go_wp2_with (fail)
    go_ret
    exact ⟨rfl, bl_call hb0 hbk⟩
  · obtain ⟨hW2, hn⟩ := ways_neg hW
    obtain ⟨hok, hlw⟩ := wayB_iff hW
    have hl3 : l.length ≤ 3 := by rw [hlw.len]; have := hok.pts; omega
    have H5 := fun A' c' w h h' => Lib.hid (Ways_c A A' R g (negL l) cap c' w hbrg (by simp; omega) h h')
    rw [hW2, hn, negL_len, errB_t] at H5
    rw [hW, errB_t] at H1 H2
    have HS : Hid (∀ k, k < l.length → (negL l).take (k + 1) = (negL l).take k ++ [-(l.getD k 0)]) := fun k hk => neg_take hk
    have HL : Hid (∀ k, k ≤ l.length → ((negL l).take k).length = k) := fun k hk => by simp; omega
    have HA : Hid ((negL l).take l.length = negL l) := by show _ = _; rw [List.take_of_length_le (by simp)]
    have HB := Lib.hid (fun k => hlw.at_ k)
    have HNL : Hid ((negL l).length = l.length) := negL_len l
    generalize negL l = nl at *
    generalize wayG g l = n at *
    clear hbrg hlg hlrg hxg hxl hcapg hcmg hll hW hW2 hok hlw hn
    go_enter Try.func5, Try.ntmps5
    have hb0 := Below.refl w.heap.size w
    go_wp2_with (fail)
    refine (HLg _ (hg.later hb0)).out.mono ?_
    rintro e w1 ⟨rfl, hbx⟩
    replace hb0 := bl_call hb0 hbx
    clear hbx
    go_wp2_with (fail)
    refine (HLl _).out.mono ?_
    rintro e w1 ⟨rfl, rfl⟩
    go_wp2_with (fail)
    refine (H1 _ (hg.later hb0) (hl.later hb0)).out.mono ?_
    rintro e w1 ⟨rfl, hbx⟩
    replace hb0 := bl_call hb0 hbx
    clear hbx
    go_wp2_with (fail)
    refine (H2 _ (hg.later hb0) (hl.later hb0)).out.mono ?_
    rintro e w1 ⟨rfl, hbx⟩
    replace hb0 := bl_call hb0 hbx
    clear hbx
    go_wp2_with (fail)
    clear H1 H2
    go_loopg [9, 10] l.length (fun gk ov iv wr => ∃ (k : Nat) (A' : Option Addr) (c' : Nat), Hid (k + gk = l.length) ∧ iv = .int .i64 (k : Int) ∧ ov = .slice A' k c' ∧ wr.ownsRow w.heap.size 3 1 (.slice A' k c') (nl.take k).length (ints (nl.take k)) ∧ Below w.heap.size w wr)
    case atStart => exact ⟨0, none, 0, by simp [Hid], rfl, rfl, by rw [List.take_zero]; exact World.ownsRow_nil _ _ _ _, hb0⟩
    case round =>
      clear hb0
      obtain ⟨k, A', c', HK', rfl, rfl, hown, hb0⟩ := hrel
      rcases gk with _ | gi
      · obtain rfl : k = l.length := HK'.out
        rw [HA.out, HNL.out] at hown
        have hrd := (own_rd hown).1
        clear hown
        go_wp2_with (fail)
        refine (H5 _ _ _ (hg.later hb0) hrd).out.mono ?_
        rintro e w1 ⟨rfl, hbx⟩
        replace hb0 := bl_call hb0 hbx
        clear hbx hrd
        go_wp2_with (fail)
        refine (HK _).out.mono ?_
        rintro e wk ⟨rfl, hbk⟩
        go_wp2_with (fail)
        go_ret
        exact ⟨rfl, bl_call hb0 hbk⟩
      · have hkN : k < l.length := by have := HK'.out; omega
        have hkN' : (k : Int) < (l.length : Int) := by omega
        obtain ⟨b1, o1, rfl, _, c1⟩ := (hl.later hb0).one hkN
        obtain ⟨s1, s2⟩ := HB.out k
        have HSk := Lib.hid (HS.out k hkN)
        have HLk := Lib.hid (HL.out k (by omega))
        generalize nl.take k = L at *
        generalize l.getD k 0 = y at *
        have q1 : wrap64 (-y) = -y := IntWalk.wrap64_in _ ⟨by omega, by omega⟩
        obtain ⟨A2, c2, w2, hrun, hown3, hb3, _⟩ := append_int w.heap.size wr (.slice A' k c') L (-y) hown (by rw [HLk.out]; omega) hb0.size
        rw [HLk.out] at hrun hown3
        have E1 := Lib.hid hrun
        clear hrun hown
        go_wp2_with (at_builtin; refine wpList_append_eq rfl _ _ 23 rfl _ _ _ w2 rfl rfl E1.out ?_)
        go_roundg gi
        case rel => exact ⟨k + 1, A2, c2, by have := HK'.out; show _ = _; omega, by go_num, rfl, by rw [HSk.out]; exact hown3, hb0.trans hb3⟩
        case measure => omega
end Go.Proofs.Ytnofeibgnlkkcaa
