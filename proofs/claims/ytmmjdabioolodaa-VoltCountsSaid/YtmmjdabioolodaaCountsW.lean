/- VoltCounts, walked. -/
import Derived.Test.YtmmjdabioolodaaKnw
import Derived.Test.YtmmjdabioolodaaFds
import Derived.Test.YtmmjdabioolodaaRfds
namespace Go.Proofs.Ytmmjdabioolodaa
open Go.RowKit

theorem quiet_len {g : List (List Int)} : (found (quietG g)).length ≤ 9223372036854775806 := by
  rcases h : quietG g with _ | v
  · simp [found]
  · unfold quietG at h
    split at h
    · rename_i hg
      have h1 := (mem_makers.1 (List.mem_of_find?_eq_some h)).1.len
      have := (okG_iff.1 hg).wrs
      show v.length ≤ _
      omega
    · cases h
set_option maxRecDepth 100000 in
set_option maxHeartbeats 4000000 in
theorem voltCounts_walk (A : Option Addr) (R : Rows) (g : List (List Int)) (cap : Nat) (w : World) (hcapg : g.length ≤ cap) (hcmg : cap ≤ maxLen) (hg : RT w A R g) :
    Calls Try.prog 6 #[.slice A g.length cap] w fun e w' => e = .returned (.bool true) ∧ Below w.heap.size w w' := by
  have HK := fun w => Lib.hid (known_c w)
  have HLg := fun w h => Lib.hid (Long_c A R g cap w (by unfold maxLen at hcmg; omega) h)
  rcases hxg : longB g with _ | _
  rotate_left
  · rw [hxg] at HLg
    go_enter Try.func6, Try.ntmps6
    have hb0 := Below.refl w.heap.size w
    go_wp2_with (fail)
    refine (HLg _ (hg.later hb0)).out.mono ?_
    rintro e w1 ⟨rfl, hbx⟩
    replace hb0 := bl_call hb0 hbx
    clear hbx
    go_wp2_with (fail)
    refine (HK _).out.mono ?_
    rintro e wk ⟨rfl, hbk⟩
    go_wp2_with (fail)
    go_ret
    exact ⟨rfl, bl_call hb0 hbk⟩
  rw [hxg] at HLg
  obtain ⟨hbrg, hlg, hlrg⟩ := brief_of hxg
  have H1 := fun w h => Lib.hid (Fields_c A R g cap w hbrg h)
  have H2 := fun w h => Lib.hid (rFields_c A R g cap w hbrg h)
  have H3 := fun w h => Lib.hid (Quiet_c A R g cap w hbrg h)
  have H4 := fun w h => Lib.hid (rQuiet_c A R g cap w hbrg h)
  have H5 := fun A' B' c1 c2 w h h' => Lib.hid (sameInts_c A' B' (found (quietG g)) (found (quietG g)) c1 c2 w quiet_len h h')
  rw [decide_eq_true rfl] at H5
  unfold OutS at H3 H4
  rcases hG : okG g with _ | _
  · have h1 : fldsG g = 0 := by unfold fldsG; rw [hG]; rfl
    have h2 : quietG g = none := by unfold quietG; rw [hG]; rfl
    rw [h2] at H3 H4 H5
    rw [h1] at H1 H2
    rw [hG, errB_f] at H1 H2 H3 H4
    simp only [found, Option.getD_none, Option.isSome_none, List.length_nil] at H3 H4 H5
    clear h1 h2 hbrg hlg hlrg hxg hcapg hcmg hG
    go_enter Try.func6, Try.ntmps6
    have hb0 := Below.refl w.heap.size w
    go_wp2_with (fail)
    refine (HLg _ (hg.later hb0)).out.mono ?_
    rintro e w1 ⟨rfl, hbx⟩
    replace hb0 := bl_call hb0 hbx
    clear hbx
    go_wp2_with (fail)
    refine (H1 _ (hg.later hb0)).out.mono ?_
    rintro e w1 ⟨rfl, hbx⟩
    replace hb0 := bl_call hb0 hbx
    clear hbx
    go_wp2_with (fail)
    refine (H2 _ (hg.later hb0)).out.mono ?_
    rintro e w1 ⟨rfl, hbx⟩
    replace hb0 := bl_call hb0 hbx
    clear hbx
    go_wp2_with (fail)
    refine (H3 _ (hg.later hb0)).out.mono ?_
    rintro e w1 ⟨A3, c3, rfl, hr3, hbx⟩
    replace hb0 := bl_call hb0 hbx
    clear hbx
    go_wp2_with (fail)
    refine (H4 _ (hg.later hb0)).out.mono ?_
    rintro e w1 ⟨A4, c4, rfl, hr4, hbx⟩
    replace hb0 := bl_call hb0 hbx
    replace hr3 := hr3.later hbx
    clear hbx
    go_wp2_with (fail)
    refine (H5 _ _ _ _ _ hr3 hr4).out.mono ?_
    rintro e w1 ⟨rfl, hbx⟩
    replace hb0 := bl_call hb0 hbx
    clear hbx hr3 hr4
    go_wp2_with (fail)
    refine (HK _).out.mono ?_
    rintro e wk ⟨rfl, hbk⟩
    go_wp2_with (fail)
    go_ret
    exact ⟨rfl, bl_call hb0 hbk⟩
  · have hok := okG_iff.1 hG
    have h1 : fldsG g = ((distL g).length : Int) := by unfold fldsG; rw [if_pos hG]
    have h2 : quietG g = quietL g := by unfold quietG; rw [if_pos hG]
    rw [h2] at H3 H4 H5
    rw [h1] at H1 H2
    rw [hG, errB_t] at H1 H2 H3 H4
    have hd1 := dist_one g
    have HD2 := dist_all g
    have hw3 := hok.wrs
    have hp3 := hok.pts
    obtain ⟨b0, o0, rfl, _, HC⟩ := hg.all_ (by omega)
    have HC0 : Hid (∀ w1, Below w.heap.size w w1 → w1.cell? ⟨b0, o0, none⟩ = some (.slice (R 0).1 (wires g) (R 0).2)) := fun w1 h => by have := HC w1 h 0 (by omega); rwa [Nat.add_zero] at this
    have hgl : (0 : Int) < (g.length : Int) := by omega
    have hgl2 : 0 < g.length := by omega
    have hgn : ¬ g = [] := by rintro rfl; simp at hgl2
    have HQ : ∀ v, quietL g = some v → (distL g).length < 7 ^ wires g := fun v h => quiet_less h
    generalize (distL g).length = m at *
    generalize wires g = n at *
    clear h1 h2 hbrg hlg hlrg hxg hcapg hcmg hG hok HC hp3
    rcases hQ : quietL g with _ | v
    · have HF : Hid (∀ a : Nat, a = 7 ^ n → m ≤ a) := fun a ha => by rw [ha]; exact HD2
      rw [hQ] at H3 H4 H5
      simp only [found, Option.getD_none, Option.isSome_none, List.length_nil] at H3 H4 H5
      clear HQ hQ HD2
      go_enter Try.func6, Try.ntmps6
      have hb0 := Below.refl w.heap.size w
      go_wp2_with (fail)
      refine (HLg _ (hg.later hb0)).out.mono ?_
      rintro e w1 ⟨rfl, hbx⟩
      replace hb0 := bl_call hb0 hbx
      clear hbx
      go_wp2_with (fail)
      refine (H1 _ (hg.later hb0)).out.mono ?_
      rintro e w1 ⟨rfl, hbx⟩
      replace hb0 := bl_call hb0 hbx
      clear hbx
      go_wp2_with (fail)
      refine (H2 _ (hg.later hb0)).out.mono ?_
      rintro e w1 ⟨rfl, hbx⟩
      replace hb0 := bl_call hb0 hbx
      clear hbx
      go_wp2_with (fail)
      refine (H3 _ (hg.later hb0)).out.mono ?_
      rintro e w1 ⟨A3, c3, rfl, hr3, hbx⟩
      replace hb0 := bl_call hb0 hbx
      clear hbx
      go_wp2_with (fail)
      refine (H4 _ (hg.later hb0)).out.mono ?_
      rintro e w1 ⟨A4, c4, rfl, hr4, hbx⟩
      replace hb0 := bl_call hb0 hbx
      replace hr3 := hr3.later hbx
      clear hbx
      go_wp2_with (fail)
      refine (H5 _ _ _ _ _ hr3 hr4).out.mono ?_
      rintro e w1 ⟨rfl, hbx⟩
      replace hb0 := bl_call hb0 hbx
      clear hbx hr3 hr4
      clear H1 H2 H3 H4 H5
      go_wp2_with (fail)
      go_loopg [13, 14] n (fun gk av iv wr => ∃ k a : Nat, Hid (k + gk = n) ∧ Hid (a = 7 ^ k) ∧ iv = .int .i64 (k : Int) ∧ av = .int .i64 (a : Int) ∧ Below w.heap.size w wr)
      case atStart => exact ⟨0, 1, by simp [Hid], rfl, rfl, rfl, hb0⟩
      case round =>
        clear hb0
        obtain ⟨k, a, HK1, HA, rfl, rfl, hb0⟩ := hrel
        have c0 := HC0.out wr hb0
        rcases gk with _ | gi
        · obtain rfl : k = n := HK1.out
          have hf := HF.out a HA.out
          have hf1 : (1 : Int) ≤ (m : Int) := by omega
          have hf2 : (m : Int) ≤ (a : Int) := by omega
          have hnlt : ¬ (k : Int) < (k : Int) := by omega
          go_wp2_with (fail)
          refine (HK _).out.mono ?_
          rintro e wk ⟨rfl, hbk⟩
          go_wp2_with (fail)
          go_ret
          exact ⟨rfl, bl_call hb0 hbk⟩
        · have hkN : k < n := by have := HK1.out; omega
          have hkN' : (k : Int) < (n : Int) := by omega
          have hk10 : (k : Int) < 10 := by omega
          have ha : a ≤ 343 := by rw [HA.out]; exact pow_le (by omega)
          have q1 : wrap64 ((a : Int) * 7) = (a : Int) * 7 := IntWalk.wrap64_in _ ⟨by omega, by omega⟩
          have HA2 : Hid (a * 7 = 7 ^ (k + 1)) := by show _ = _; rw [HA.out, Nat.pow_succ]
          go_wp2_with (fail)
          go_roundg gi
          case rel => exact ⟨k + 1, a * 7, by have := HK1.out; show _ = _; omega, HA2.out, by go_num, by push_cast; rfl, hb0⟩
          case measure => omega
    · have HF : Hid (∀ a : Nat, a = 7 ^ n → m < a) := fun a ha => by rw [ha]; exact HQ v hQ
      rw [hQ] at H3 H4 H5
      simp only [found, Option.getD_some, Option.isSome_some] at H3 H4 H5
      clear HQ hQ HD2
      go_enter Try.func6, Try.ntmps6
      have hb0 := Below.refl w.heap.size w
      go_wp2_with (fail)
      refine (HLg _ (hg.later hb0)).out.mono ?_
      rintro e w1 ⟨rfl, hbx⟩
      replace hb0 := bl_call hb0 hbx
      clear hbx
      go_wp2_with (fail)
      refine (H1 _ (hg.later hb0)).out.mono ?_
      rintro e w1 ⟨rfl, hbx⟩
      replace hb0 := bl_call hb0 hbx
      clear hbx
      go_wp2_with (fail)
      refine (H2 _ (hg.later hb0)).out.mono ?_
      rintro e w1 ⟨rfl, hbx⟩
      replace hb0 := bl_call hb0 hbx
      clear hbx
      go_wp2_with (fail)
      refine (H3 _ (hg.later hb0)).out.mono ?_
      rintro e w1 ⟨A3, c3, rfl, hr3, hbx⟩
      replace hb0 := bl_call hb0 hbx
      clear hbx
      go_wp2_with (fail)
      refine (H4 _ (hg.later hb0)).out.mono ?_
      rintro e w1 ⟨A4, c4, rfl, hr4, hbx⟩
      replace hb0 := bl_call hb0 hbx
      replace hr3 := hr3.later hbx
      clear hbx
      go_wp2_with (fail)
      refine (H5 _ _ _ _ _ hr3 hr4).out.mono ?_
      rintro e w1 ⟨rfl, hbx⟩
      replace hb0 := bl_call hb0 hbx
      clear hbx hr3 hr4
      clear H1 H2 H3 H4 H5
      go_wp2_with (fail)
      go_loopg [13, 14] n (fun gk av iv wr => ∃ k a : Nat, Hid (k + gk = n) ∧ Hid (a = 7 ^ k) ∧ iv = .int .i64 (k : Int) ∧ av = .int .i64 (a : Int) ∧ Below w.heap.size w wr)
      case atStart => exact ⟨0, 1, by simp [Hid], rfl, rfl, rfl, hb0⟩
      case round =>
        clear hb0
        obtain ⟨k, a, HK1, HA, rfl, rfl, hb0⟩ := hrel
        have c0 := HC0.out wr hb0
        rcases gk with _ | gi
        · obtain rfl : k = n := HK1.out
          have hf := HF.out a HA.out
          have hf1 : (1 : Int) ≤ (m : Int) := by omega
          have hf2 : (m : Int) ≤ (a : Int) := by omega
          have hf3 : (m : Int) < (a : Int) := by omega
          have hnlt : ¬ (k : Int) < (k : Int) := by omega
          go_wp2_with (fail)
          refine (HK _).out.mono ?_
          rintro e wk ⟨rfl, hbk⟩
          go_wp2_with (fail)
          go_ret
          exact ⟨rfl, bl_call hb0 hbk⟩
        · have hkN : k < n := by have := HK1.out; omega
          have hkN' : (k : Int) < (n : Int) := by omega
          have hk10 : (k : Int) < 10 := by omega
          have ha : a ≤ 343 := by rw [HA.out]; exact pow_le (by omega)
          have q1 : wrap64 ((a : Int) * 7) = (a : Int) * 7 := IntWalk.wrap64_in _ ⟨by omega, by omega⟩
          have HA2 : Hid (a * 7 = 7 ^ (k + 1)) := by show _ = _; rw [HA.out, Nat.pow_succ]
          go_wp2_with (fail)
          go_roundg gi
          case rel => exact ⟨k + 1, a * 7, by have := HK1.out; show _ = _; omega, HA2.out, by go_num, by push_cast; rfl, hb0⟩
          case measure => omega
end Go.Proofs.Ytmmjdabioolodaa
