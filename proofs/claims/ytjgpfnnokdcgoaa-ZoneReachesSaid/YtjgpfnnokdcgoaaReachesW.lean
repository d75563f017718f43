/- The walk of the law on how many places are reached. -/
import Derived.Test.YtjgpfnnokdcgoaaKnownZ
import Derived.Test.YtjgpfnnokdcgoaaReachL
import Derived.Test.YtjgpfnnokdcgoaaRreach
import Derived.Test.YtjgpfnnokdcgoaaFarth
import Derived.Test.YtjgpfnnokdcgoaaMovesW
import Derived.Deep.CutRange
namespace Go.Proofs.Ytjgpfnnokdcgoaa
open Go.RowKit Go.Maps

set_option maxRecDepth 100000 in
set_option maxHeartbeats 8000000 in
theorem zoneReaches_walk (Z : Int) (A : Option Addr) (l : List (Int × Int)) (c : Nat) (B : Option Addr) (p : List Int) (d : Nat) (w : World) (_hcap : l.length ≤ c) (hcap : p.length ≤ d) (hr : Rd w A (cellsP l)) (hs : Rd w B (ints p)) :
    Calls Try.prog 8 #[trapV Z A l.length c, .slice B p.length d] w fun e w' => e = .returned (.bool true) ∧ Below w.heap.size w w' := by
  have HL := fun w => Lib.hid (long_c Z A l.length c w)
  have HM := fun w => Lib.hid (many_c B p.length d w)
  have HK := fun w => Lib.hid (known_c w)
  have x0 := Bx.new w 24 #[.int .i64 Z, .slice A l.length c]
  have hb0 := bl_alloc (Below.refl w.heap.size w) (.cells #[.int .i64 Z, .slice A l.length c] 24)
  generalize hw0 : w.alloc (.cells #[.int .i64 Z, .slice A l.length c] 24) = w0 at *
  obtain ⟨c0, c1, _⟩ := x0.two
  by_cases hlong : 60 < l.length
  · rw [decide_eq_true hlong] at HL
    go_enter Try.func8, Try.ntmps8
    go_wp2_with (fail)
    refine (HL _).out.mono ?_
    rintro e w1 ⟨rfl, hb1⟩
    go_wp2_with (fail)
    refine (HK _).out.mono ?_
    rintro e w2 ⟨rfl, hb2⟩
    go_wp2_with (fail)
    go_ret
    exact ⟨rfl, bl_call hb0 (bl_call hb1 hb2)⟩
  · rw [decide_eq_false hlong] at HL
    by_cases hmany : 40 < p.length
    · rw [decide_eq_true hmany] at HM
      go_enter Try.func8, Try.ntmps8
      go_wp2_with (fail)
      refine (HL _).out.mono ?_
      rintro e w1 ⟨rfl, hb1⟩
      go_wp2_with (fail)
      refine (HM _).out.mono ?_
      rintro e w2 ⟨rfl, rfl⟩
      go_wp2_with (fail)
      refine (HK _).out.mono ?_
      rintro e w2 ⟨rfl, hb2⟩
      go_wp2_with (fail)
      go_ret
      exact ⟨rfl, bl_call hb0 (bl_call hb1 hb2)⟩
    · rw [decide_eq_false hmany] at HM
      have hlen : l.length ≤ 1000 := by omega
      have hlen' : p.length ≤ 1000 := by omega
      have H1 := fun w1 hr1 hs1 => Lib.hid (Reach_c Z A B l p c d w1 hlen hlen' hr1 hs1)
      have H2 := fun w1 hr1 hs1 => Lib.hid (rReach_c Z A B l p c d w1 hlen hlen' hcap hr1 hs1)
      have H3 := fun w1 hr1 hs1 => Lib.hid (Farthest_c Z A B l p c d w1 hlen hlen' hr1 hs1)
      have H4 := fun w1 hr1 hs1 => Lib.hid (rFarthest_c Z A B l p c d w1 hlen hlen' hcap hr1 hs1)
      have H5 := fun w1 hr1 hs1 => Lib.hid (Moves_c Z A B l p c d w1 hlen hlen' hr1 hs1)
      have H6 := fun X (x : Int × Int) w1 hr1 hs1 hm1 => Lib.hid (CheckPlan_c Z A B X l p [x] c d 1 w1 hlen hlen' (by simp) hr1 hs1 hm1)
      have H7 := fun X (x : List Int) y w1 (hx : x.length ≤ 1000) hr1 hs1 => Lib.hid (Reach_c Z A X l x c y w1 hlen hx hr1 hs1)
      have HMl := movesG_len Z l p
      have HOV := fun h => @reaches_facts Z l p h
      clear hlong hmany
      generalize placeE Z l p = e1 at *
      generalize reachG Z l p = a at *
      generalize farG Z l p = b at *
      go_enter Try.func8, Try.ntmps8
      go_wp2_with (fail)
      refine (HL _).out.mono ?_
      rintro e w1 ⟨rfl, hb1⟩
      go_wp2_with (fail)
      refine (HM _).out.mono ?_
      rintro e w2 ⟨rfl, rfl⟩
      have y1 := x0.call hb1
      have hb01 := bl_call hb0 hb1
      clear c0 c1
      obtain ⟨c0, c1, _⟩ := y1.two
      go_wp2_with (fail)
      refine (H1 _ (hr.later hb01) (hs.later hb01)).out.mono ?_
      rintro e w2 ⟨rfl, hb2⟩
      have hb02 := bl_call hb01 hb2
      have y2 := y1.call hb2
      clear c0 c1
      obtain ⟨c0, c1, _⟩ := y2.two
      go_wp2_with (fail)
      refine (H2 _ (hr.later hb02) (hs.later hb02)).out.mono ?_
      rintro e w3 ⟨rfl, hb3⟩
      have hb03 := bl_call hb02 hb3
      have y3 := y2.call hb3
      clear c0 c1
      obtain ⟨c0, c1, _⟩ := y3.two
      go_wp2_with (fail)
      refine (H3 _ (hr.later hb03) (hs.later hb03)).out.mono ?_
      rintro e w4 ⟨rfl, hb4⟩
      have hb04 := bl_call hb03 hb4
      have y4 := y3.call hb4
      clear c0 c1
      obtain ⟨c0, c1, _⟩ := y4.two
      go_wp2_with (fail)
      refine (H4 _ (hr.later hb04) (hs.later hb04)).out.mono ?_
      rintro e w5 ⟨rfl, hb5⟩
      have hb05 := bl_call hb04 hb5
      have y5 := y4.call hb5
      clear c0 c1
      obtain ⟨c0, c1, _⟩ := y5.two
      by_cases he : e1 = 0
      · subst he
        obtain ⟨hlt, HO2⟩ := HOV rfl
        clear HOV H1 H2 H3 H4
        generalize movesG Z l p = M at *
        go_wp2_with (fail)
        refine (H5 _ (hr.later hb05) (hs.later hb05)).out.mono ?_
        rintro e w6 ⟨A6, c6, rfl, ho6, hb6⟩
        have hb06 := bl_call hb05 hb6
        have y6 := y5.call hb6
        clear c0 c1
        have hm6 := (own_rd ho6).1
        go_wp2_with (fail)
        go_loopg [15] (min M.length 3) (fun gk iv wr => ∃ k : Nat, Hid (k + gk = min M.length 3) ∧ iv = .int .i64 (k : Int) ∧ Below w6.heap.size w6 wr)
        case atStart => exact ⟨0, by simp [Hid], rfl, Below.refl _ _⟩
        case round =>
          obtain ⟨k, HKK, rfl, hb⟩ := hrel
          have hb0r := bl_call hb06 hb
          rcases gk with _ | gi
          · by_cases hkM : (k : Int) < (M.length : Int)
            · have hk4 : ¬ (k : Int) < 3 := by have h := HKK.out; omega
              go_wp2_with (fail)
              refine (HK _).out.mono ?_
              rintro e w4 ⟨rfl, hb4⟩
              go_wp2_with (fail)
              go_ret
              exact ⟨rfl, bl_call hb0r hb4⟩
            · go_wp2_with (fail)
              refine (HK _).out.mono ?_
              rintro e w4 ⟨rfl, hb4⟩
              go_wp2_with (fail)
              go_ret
              exact ⟨rfl, bl_call hb0r hb4⟩
          · have hkl : k < M.length := by have h := HKK.out; omega
            have hkl' : (k : Int) < (M.length : Int) := by omega
            have hk4 : (k : Int) < 3 := by have h := HKK.out; omega
            obtain ⟨bm, om, rfl, hbml, d0, d1⟩ := (hm6.later hb).pair hkl
            obtain ⟨g1, g2, g3⟩ := HO2 (M.getD k (0, 0)) (by simp [hkl])
            have hxl : (nx p (M.getD k (0, 0))).length ≤ 1000 := by simpa [nx] using hlen'
            generalize M.getD k (0, 0) = m at *
            obtain ⟨mi, mt⟩ := m
            simp only [] at d0 d1
            generalize nx p (mi, mt) = x at *
            have yr := (y6.call hb)
            obtain ⟨c0, c1, _⟩ := yr.two
            have hyl := yr.lt
            have hbA : Below wr.heap.size wr ((wr.alloc (.cells #[.int .i64 mi, .int .i64 mt] 54)).drew) := (bl_alloc (Below.refl _ _) _).drew
            have xA : Rd ((wr.alloc (.cells #[.int .i64 mi, .int .i64 mt] 54)).drew) (some ⟨wr.heap.size, 0, none⟩) (cellsP [(mi, mt)]) := Bx.rd (cs := cellsP [(mi, mt)]) (Bx.new wr _ _)
            have HC3 := (H6 (some ⟨wr.heap.size, 0, none⟩) (mi, mt) _ (hr.later (bl_call hb0r hbA)) (hs.later (bl_call hb0r hbA)) xA).out
            unfold OutP at HC3
            rw [g1] at HC3
            simp only [] at HC3
            have HC4 := Lib.hid HC3
            have HF4 := fun X y w1 h h' => H7 X x y w1 hxl h h'
            rw [g2, g3] at HF4
            clear HC3 H6 H7 HO2 g1 g2 g3 H5
            go_wp2_with (fail)
            go_cut [16, 17, 18] from 79 to 117 (fun s16 s17 s18 wc => ∃ A' c', s16 = .slice A' x.length c' ∧ s17 = .int .i64 1 ∧ s18 = .int .i64 0 ∧ wc.ownsRow wr.heap.size 3 1 (.slice A' x.length c') x.length (ints x) ∧ Below wr.heap.size wr wc)
            case first =>
              go_region_with (go_at_call 32; refine HC4.out.mono ?_; rintro e w5 ⟨A', c', rfl, ho5, hb5⟩)
              all_goals
                go_wp2_with (fail)
                go_meet
                exact ⟨_, _, rfl, rfl, rfl, own_base ho5 hbA.size, bl_call hbA hb5⟩
            obtain ⟨A', c', rfl, rfl, rfl, ho7, hb7⟩ := hcut
            have hb67 := bl_call hb hb7
            have hb07 := bl_call hb0r hb7
            clear c0 c1
            obtain ⟨c0, c1, _⟩ := (yr.call hb7).two
            go_wp2_with (fail)
            refine (HF4 _ _ _ (hr.later hb07) (own_rd ho7).1).out.mono ?_
            rintro e w8 ⟨rfl, hb8⟩
            go_wp2_with (fail)
            go_roundg gi
            case rel => exact ⟨k + 1, by have h := HKK.out; show _ = _; omega, by go_num, bl_call hb67 hb8⟩
            case measure => omega
      · clear HOV
        go_wp2_with (fail)
        refine (HK _).out.mono ?_
        rintro e w6 ⟨rfl, hb6⟩
        go_wp2_with (fail)
        go_ret
        exact ⟨rfl, bl_call hb05 hb6⟩
end Go.Proofs.Ytjgpfnnokdcgoaa
