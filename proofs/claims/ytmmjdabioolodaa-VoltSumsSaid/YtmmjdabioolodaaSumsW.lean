/- VoltSums, walked. -/
import Derived.Test.YtmmjdabioolodaaKnw
import Derived.Test.YtmmjdabioolodaaRsum
namespace Go.Proofs.Ytmmjdabioolodaa
open Go.RowKit

theorem sum_some {g : List (List Int)} {a b S : List Int} (h : sumG g a b = some S) : sumB g a b = true ∧ S = addL a b ∧ okL g S = true := by
  unfold sumG at h
  split at h
  · rename_i h1
    split at h
    · rename_i h2; injection h with h; subst h; exact ⟨h1, rfl, h2⟩
    · cases h
  · cases h
theorem fieldL_at {g : List (List Int)} {v : List Int} {k : Nat} (h : k < g.length) : (fieldL g v).getD k 0 = dotTo (g.getD k []) v (wires g) := by simp [fieldL, fAt, h]
set_option maxRecDepth 100000 in
set_option maxHeartbeats 4000000 in
theorem voltSums_walk (A : Option Addr) (R : Rows) (g : List (List Int)) (cap : Nat) (B : Option Addr) (a : List Int) (c : Nat) (D : Option Addr) (b : List Int) (d : Nat) (w : World) (hcapg : g.length ≤ cap) (hcmg : cap ≤ maxLen) (hg : RT w A R g) (ha : Rd w B (ints a)) (hb : Rd w D (ints b)) :
    Calls Try.prog 13 #[.slice A g.length cap, .slice B a.length c, .slice D b.length d] w fun e w' => e = .returned (.bool true) ∧ Below w.heap.size w w' := by
  have HK := fun w => Lib.hid (known_c w)
  have HLg := fun w h => Lib.hid (Long_c A R g cap w (by unfold maxLen at hcmg; omega) h)
  have HLa := fun w => Lib.hid (many_c B a.length c w)
  have HLb := fun w => Lib.hid (many_c D b.length d w)
  rcases hxg : longB g with _ | _
  rotate_left
  · rw [hxg] at HLg
    go_enter Try.func13, Try.ntmps13
    have hb0 := Below.refl w.heap.size w
    go_wp2_with (fail)
    refine (HLg _ (hg.later hb0)).out.mono ?_
    rintro e w1 ⟨rfl, hbx⟩
    replace hb0 := bl_call hb0 hbx
    clear hbx
    go_wp2_with (fail)
    refine (HK _).out.mono ?_
    rintro e wk ⟨rfl, hbk⟩
    go_wp2_with (fail)
    go_ret
    exact ⟨rfl, bl_call hb0 hbk⟩
  rw [hxg] at HLg
  obtain ⟨hbrg, hlg, hlrg⟩ := brief_of hxg
  by_cases hxa : 40 < a.length
  · rw [decide_eq_true hxa] at HLa
    go_enter Try.func13, Try.ntmps13
    have hb0 := Below.refl w.heap.size w
    go_wp2_with (fail)
    refine (HLg _ (hg.later hb0)).out.mono ?_
    rintro e w1 ⟨rfl, hbx⟩
    replace hb0 := bl_call hb0 hbx
    clear hbx
    go_wp2_with (fail)
    refine (HLa _).out.mono ?_
    rintro e w1 ⟨rfl, rfl⟩
    go_wp2_with (fail)
    refine (HK _).out.mono ?_
    rintro e wk ⟨rfl, hbk⟩
    go_wp2_with (fail)
    go_ret
    exact ⟨rfl, bl_call hb0 hbk⟩
  rw [decide_eq_false hxa] at HLa
  have hla : a.length ≤ 1000 := by omega
  by_cases hxb : 40 < b.length
  · rw [decide_eq_true hxb] at HLb
    go_enter Try.func13, Try.ntmps13
    have hb0 := Below.refl w.heap.size w
    go_wp2_with (fail)
    refine (HLg _ (hg.later hb0)).out.mono ?_
    rintro e w1 ⟨rfl, hbx⟩
    replace hb0 := bl_call hb0 hbx
    clear hbx
    go_wp2_with (fail)
    refine (HLa _).out.mono ?_
    rintro e w1 ⟨rfl, rfl⟩
    go_wp2_with (fail)
    refine (HLb _).out.mono ?_
    rintro e w1 ⟨rfl, rfl⟩
    go_wp2_with (fail)
    refine (HK _).out.mono ?_
    rintro e wk ⟨rfl, hbk⟩
    go_wp2_with (fail)
    go_ret
    exact ⟨rfl, bl_call hb0 hbk⟩
  rw [decide_eq_false hxb] at HLb
  have hlb : b.length ≤ 1000 := by omega
  have H1 := fun w h h' k => Lib.hid (Sum_c A B D R g a b cap c d w hbrg hla hlb h h' k)
  have H2 := fun w h h' k => Lib.hid (rSum_c A B D R g a b cap c d w hbrg hla hlb h h' k)
  have hfl : (found (sumG g a b)).length ≤ 9223372036854775806 := by
    rcases hs : sumG g a b with _ | S
    · simp [found]
    · obtain ⟨_, rfl, _⟩ := sum_some hs
      show (addL a b).length ≤ _
      rw [addL_len]; omega
  have H3 := fun A' B' c1 c2 w h h' => Lib.hid (sameInts_c A' B' (found (sumG g a b)) (found (sumG g a b)) c1 c2 w hfl h h')
  rw [decide_eq_true rfl] at H3
  unfold OutS at H1 H2
  rcases hS : sumG g a b with _ | S
  · rw [hS] at H1 H2 H3
    generalize errB (sumB g a b) = X at *
    simp only [found, Option.getD_none, Option.isSome_none, List.length_nil] at H1 H2 H3
    clear hbrg hlg hlrg hxg hxa hxb hcapg hcmg hla hlb hS hfl
    go_enter Try.func13, Try.ntmps13
    have hb0 := Below.refl w.heap.size w
    go_wp2_with (fail)
    refine (HLg _ (hg.later hb0)).out.mono ?_
    rintro e w1 ⟨rfl, hbx⟩
    replace hb0 := bl_call hb0 hbx
    clear hbx
    go_wp2_with (fail)
    refine (HLa _).out.mono ?_
    rintro e w1 ⟨rfl, rfl⟩
    go_wp2_with (fail)
    refine (HLb _).out.mono ?_
    rintro e w1 ⟨rfl, rfl⟩
    go_wp2_with (fail)
    refine (H1 _ (hg.later hb0) (ha.later hb0) (hb.later hb0)).out.mono ?_
    rintro e w1 ⟨A1, c1, rfl, hr1, hbx⟩
    replace hb0 := bl_call hb0 hbx
    clear hbx
    go_wp2_with (fail)
    refine (H2 _ (hg.later hb0) (ha.later hb0) (hb.later hb0)).out.mono ?_
    rintro e w1 ⟨A2, c2, rfl, hr2, hbx⟩
    replace hb0 := bl_call hb0 hbx
    replace hr1 := hr1.later hbx
    clear hbx
    go_wp2_with (fail)
    refine (H3 _ _ _ _ _ hr1 hr2).out.mono ?_
    rintro e w1 ⟨rfl, hbx⟩
    replace hb0 := bl_call hb0 hbx
    replace hr1 := hr1.later hbx
    clear hbx hr2
    go_wp2_with (fail)
    refine (HK _).out.mono ?_
    rintro e wk ⟨rfl, hbk⟩
    go_wp2_with (fail)
    go_ret
    exact ⟨rfl, bl_call hb0 hbk⟩
  · obtain ⟨hsb, hSe, hokS⟩ := sum_some hS
    obtain ⟨hG, hA, hB⟩ := sumB_iff hsb
    have hgb : okG g = true := okG_iff.2 hG
    have hSl : S.length = a.length := by rw [hSe, addL_len]
    have H4 := fun w h h' => Lib.hid (Field_c A B R g a cap c w hbrg hla h h')
    have H5 := fun w h h' => Lib.hid (Field_c A D R g b cap d w hbrg hlb h h')
    have H6 := fun A' c1 w h h' => Lib.hid (Field_c A A' R g S cap c1 w hbrg (by omega) h h')
    have fa : fieldG g a = fieldL g a := by unfold fieldG; rw [hgb, show okL g a = true from (okN_iff (by decide)).2 hA]; rfl
    have fb : fieldG g b = fieldL g b := by unfold fieldG; rw [hgb, show okL g b = true from (okN_iff (by decide)).2 hB]; rfl
    have fs : fieldG g S = fieldL g S := by unfold fieldG; rw [hgb, hokS]; rfl
    unfold OutI at H4 H5 H6
    rw [hgb, show okL g a = true from (okN_iff (by decide)).2 hA, fa, fieldL_len] at H4
    rw [hgb, show okL g b = true from (okN_iff (by decide)).2 hB, fb, fieldL_len] at H5
    rw [hgb, hokS, fs, fieldL_len] at H6
    rw [show errB (true && true) = 0 from rfl] at H4 H5 H6
    have HX : Hid (∀ k, k < g.length → (fieldL g a).getD k 0 + (fieldL g b).getD k 0 = (fieldL g S).getD k 0 ∧ -1000 ≤ (fieldL g S).getD k 0 ∧ (fieldL g S).getD k 0 ≤ 1000) := fun k hk => by
      refine ⟨by rw [hSe, field_add hA.len hk], ?_⟩
      rw [fieldL_at hk]
      have hv : OkV S (wires g) 3 := (okN_iff (by decide)).1 hokS
      have := dot_bound (hG.row k hk) hv (wires g)
      have := hG.wrs
      omega
    have HLa' := Lib.hid (fieldL_len g a)
    have HLb' := Lib.hid (fieldL_len g b)
    have HLs := Lib.hid (fieldL_len g S)
    have hp3 := hG.pts
    have hg3 : g.length ≤ 3 := by omega
    rw [hS, hsb] at H1 H2
    rw [hS] at H3
    rw [errB_t] at H1 H2
    simp only [found, Option.getD_some, Option.isSome_some] at H1 H2 H3
    generalize fieldL g a = Fa at *
    generalize fieldL g b = Fb at *
    generalize fieldL g S = Fs at *
    clear hbrg hlg hlrg hxg hxa hxb hcapg hcmg hla hlb hS hfl hsb hSe hokS hG hA hB hgb hSl fa fb fs hp3
    generalize S.length = m at *
    go_enter Try.func13, Try.ntmps13
    have hb0 := Below.refl w.heap.size w
    go_wp2_with (fail)
    refine (HLg _ (hg.later hb0)).out.mono ?_
    rintro e w1 ⟨rfl, hbx⟩
    replace hb0 := bl_call hb0 hbx
    clear hbx
    go_wp2_with (fail)
    refine (HLa _).out.mono ?_
    rintro e w1 ⟨rfl, rfl⟩
    go_wp2_with (fail)
    refine (HLb _).out.mono ?_
    rintro e w1 ⟨rfl, rfl⟩
    go_wp2_with (fail)
    refine (H1 _ (hg.later hb0) (ha.later hb0) (hb.later hb0)).out.mono ?_
    rintro e w1 ⟨A1, c1, rfl, hr1, hbx⟩
    replace hb0 := bl_call hb0 hbx
    clear hbx
    go_wp2_with (fail)
    refine (H2 _ (hg.later hb0) (ha.later hb0) (hb.later hb0)).out.mono ?_
    rintro e w1 ⟨A2, c2, rfl, hr2, hbx⟩
    replace hb0 := bl_call hb0 hbx
    replace hr1 := hr1.later hbx
    clear hbx
    go_wp2_with (fail)
    refine (H3 _ _ _ _ _ hr1 hr2).out.mono ?_
    rintro e w1 ⟨rfl, hbx⟩
    replace hb0 := bl_call hb0 hbx
    replace hr1 := hr1.later hbx
    clear hbx hr2
    go_wp2_with (fail)
    refine (H4 _ (hg.later hb0) (ha.later hb0)).out.mono ?_
    rintro e w1 ⟨A4, c4, rfl, ho4, hbx⟩
    replace hb0 := bl_call hb0 hbx
    have hr4 := (own_rd ho4).1
    replace hr1 := hr1.later hbx
    clear ho4 hbx
    go_wp2_with (fail)
    refine (H5 _ (hg.later hb0) (hb.later hb0)).out.mono ?_
    rintro e w1 ⟨A5, c5, rfl, ho5, hbx⟩
    replace hb0 := bl_call hb0 hbx
    have hr5 := (own_rd ho5).1
    replace hr1 := hr1.later hbx
    replace hr4 := hr4.later hbx
    clear ho5 hbx
    go_wp2_with (fail)
    refine (H6 _ _ _ (hg.later hb0) hr1).out.mono ?_
    rintro e w1 ⟨A6, c6, rfl, ho6, hbx⟩
    replace hb0 := bl_call hb0 hbx
    have hr6 := (own_rd ho6).1
    replace hr4 := hr4.later hbx
    replace hr5 := hr5.later hbx
    clear ho6 hbx hr1 hg ha hb H1 H2 H3 H4 H5 H6
    go_wp2_with (fail)
    go_loopg [19] g.length (fun gk iv wr => ∃ k : Nat, Hid (k + gk = g.length) ∧ iv = .int .i64 (k : Int) ∧ Below w1.heap.size w1 wr)
    case atStart => exact ⟨0, by simp [Hid], rfl, Below.refl _ _⟩
    case round =>
      obtain ⟨k, HK', rfl, hbr⟩ := hrel
      rcases gk with _ | gi
      · obtain rfl : k = g.length := HK'.out
        have hb0r := bl_call hb0 hbr
        go_wp2_with (fail)
        refine (HK _).out.mono ?_
        rintro e wk ⟨rfl, hbk⟩
        go_wp2_with (fail)
        go_ret
        exact ⟨rfl, bl_call hb0r hbk⟩
      · have hkN : k < g.length := by have := HK'.out; omega
        have hkN' : (k : Int) < (g.length : Int) := by omega
        obtain ⟨b4, o4, rfl, _, c4'⟩ := (hr4.later hbr).one (k := k) (by rw [HLa'.out]; exact hkN)
        obtain ⟨b5, o5, rfl, _, c5'⟩ := (hr5.later hbr).one (k := k) (by rw [HLb'.out]; exact hkN)
        obtain ⟨b6, o6, rfl, _, c6'⟩ := (hr6.later hbr).one (k := k) (by rw [HLs.out]; exact hkN)
        obtain ⟨q1, q2, q3⟩ := HX.out k hkN
        generalize Fa.getD k 0 = x at *
        generalize Fb.getD k 0 = y at *
        generalize Fs.getD k 0 = z at *
        have q4 : wrap64 (x + y) = z := by rw [q1]; exact IntWalk.wrap64_in _ ⟨by omega, by omega⟩
        clear q1
        go_wp2_with (fail)
        go_quiet (fail)
        go_wp2_with (fail)
        go_roundg gi
        case rel => exact ⟨k + 1, by have := HK'.out; show _ = _; omega, by go_num, below_drewN hbr _⟩
        case measure => omega
end Go.Proofs.Ytmmjdabioolodaa
