/- The walk of the law on how far a place is. -/
import Derived.Test.YtjgpfnnokdcgoaaKnownZ
import Derived.Test.YtjgpfnnokdcgoaaFarL
import Derived.Test.YtjgpfnnokdcgoaaRfar
import Derived.Test.YtjgpfnnokdcgoaaRcheckP
import Derived.Test.YtjgpfnnokdcgoaaMovesW
namespace Go.Proofs.Ytjgpfnnokdcgoaa
open Go.RowKit Go.Maps

set_option maxRecDepth 100000 in
set_option maxHeartbeats 8000000 in
theorem zoneFar_walk (Z : Int) (A : Option Addr) (l : List (Int × Int)) (c : Nat) (B : Option Addr) (p : List Int) (d : Nat) (C : Option Addr) (q : List Int) (f : Nat) (w : World) (_hcap : l.length ≤ c) (hcap : p.length ≤ d) (hcap2 : q.length ≤ f) (hr : Rd w A (cellsP l)) (hs : Rd w B (ints p)) (hs2 : Rd w C (ints q)) :
    Calls Try.prog 7 #[trapV Z A l.length c, .slice B p.length d, .slice C q.length f] w fun e w' => e = .returned (.bool true) ∧ Below w.heap.size w w' := by
  have HL := fun w => Lib.hid (long_c Z A l.length c w)
  have HM := fun w => Lib.hid (many_c B p.length d w)
  have HM2 := fun w => Lib.hid (many_c C q.length f w)
  have HK := fun w => Lib.hid (known_c w)
  have x0 := Bx.new w 24 #[.int .i64 Z, .slice A l.length c]
  have hb0 := bl_alloc (Below.refl w.heap.size w) (.cells #[.int .i64 Z, .slice A l.length c] 24)
  generalize hw0 : w.alloc (.cells #[.int .i64 Z, .slice A l.length c] 24) = w0 at *
  obtain ⟨c0, c1, _⟩ := x0.two
  by_cases hlong : 60 < l.length
  · rw [decide_eq_true hlong] at HL
    go_enter Try.func7, Try.ntmps7
    go_wp2_with (fail)
    refine (HL _).out.mono ?_
    rintro e w1 ⟨rfl, hb1⟩
    go_wp2_with (fail)
    refine (HK _).out.mono ?_
    rintro e w2 ⟨rfl, hb2⟩
    go_wp2_with (fail)
    go_ret
    exact ⟨rfl, bl_call hb0 (bl_call hb1 hb2)⟩
  · rw [decide_eq_false hlong] at HL
    by_cases hmany : 40 < p.length
    · rw [decide_eq_true hmany] at HM
      go_enter Try.func7, Try.ntmps7
      go_wp2_with (fail)
      refine (HL _).out.mono ?_
      rintro e w1 ⟨rfl, hb1⟩
      go_wp2_with (fail)
      refine (HM _).out.mono ?_
      rintro e w2 ⟨rfl, rfl⟩
      go_wp2_with (fail)
      refine (HK _).out.mono ?_
      rintro e w2 ⟨rfl, hb2⟩
      go_wp2_with (fail)
      go_ret
      exact ⟨rfl, bl_call hb0 (bl_call hb1 hb2)⟩
    · rw [decide_eq_false hmany] at HM
      by_cases hmany2 : 40 < q.length
      · rw [decide_eq_true hmany2] at HM2
        go_enter Try.func7, Try.ntmps7
        go_wp2_with (fail)
        refine (HL _).out.mono ?_
        rintro e w1 ⟨rfl, hb1⟩
        go_wp2_with (fail)
        refine (HM _).out.mono ?_
        rintro e w2 ⟨rfl, rfl⟩
        go_wp2_with (fail)
        refine (HM2 _).out.mono ?_
        rintro e w2 ⟨rfl, rfl⟩
        go_wp2_with (fail)
        refine (HK _).out.mono ?_
        rintro e w2 ⟨rfl, hb2⟩
        go_wp2_with (fail)
        go_ret
        exact ⟨rfl, bl_call hb0 (bl_call hb1 hb2)⟩
      · rw [decide_eq_false hmany2] at HM2
        have hlen : l.length ≤ 1000 := by omega
        have hlen' : p.length ≤ 1000 := by omega
        have hlen2 : q.length ≤ 1000 := by omega
        have hsml : ∀ a, arrG Z l p q = some a → a.2.length < 360 := fun a h => by
          by_cases hb : bothE Z l p q = 0
          · exact (far_facts hb h).2.1
          · rw [arrG, if_neg hb] at h; exact absurd h (by simp)
        have H1 := fun w1 hr1 hs1 hm1 => Lib.hid (Far_c Z A B C l p q c d f w1 hlen hlen' hlen2 hr1 hs1 hm1)
        have H2 := fun w1 hr1 hs1 hm1 => Lib.hid (rFar_c Z A B C l p q c d f w1 hlen hlen' hlen2 hcap hcap2 hr1 hs1 hm1)
        have H3 := fun w1 hr1 hs1 hm1 => Lib.hid (Plan_c Z A B C l p q c d f w1 hlen hlen' hlen2 (fun a h => by have := hsml a h; omega) hr1 hs1 hm1)
        have H4 := fun X (x : List (Int × Int)) y w1 (hx : x.length ≤ 100000) hr1 hs1 hm1 => Lib.hid (rCheckPlan_c Z A B X l p x c d y w1 hlen hlen' hcap hx hr1 hs1 hm1)
        have H5 := fun w1 hr1 hs1 hm1 => Lib.hid (Far_c Z A C B l q p c f d w1 hlen hlen2 hlen' hr1 hs1 hm1)
        have HFF := fun hb (a : Nd) ha => @far_facts Z l p q a hb ha
        have HNB : arrG Z l p q ≠ none → bothE Z l p q = 0 := fun h => by
          by_cases hb : bothE Z l p q = 0
          · exact hb
          · rw [arrG, if_neg hb] at h; exact absurd rfl h
        clear hlong hmany hmany2
        generalize bothE Z l p q = e1 at *
        generalize arrG Z l p q = o at *
        go_enter Try.func7, Try.ntmps7
        go_wp2_with (fail)
        refine (HL _).out.mono ?_
        rintro e w1 ⟨rfl, hb1⟩
        go_wp2_with (fail)
        refine (HM _).out.mono ?_
        rintro e w2 ⟨rfl, rfl⟩
        go_wp2_with (fail)
        refine (HM2 _).out.mono ?_
        rintro e w2 ⟨rfl, rfl⟩
        have y1 := x0.call hb1
        have hb01 := bl_call hb0 hb1
        clear c0 c1
        obtain ⟨c0, c1, _⟩ := y1.two
        go_wp2_with (fail)
        refine (H1 _ (hr.later hb01) (hs.later hb01) (hs2.later hb01)).out.mono ?_
        rintro e w2 ⟨rfl, hb2⟩
        have hb02 := bl_call hb01 hb2
        have y2 := y1.call hb2
        clear c0 c1
        obtain ⟨c0, c1, _⟩ := y2.two
        go_wp2_with (fail)
        refine (H2 _ (hr.later hb02) (hs.later hb02) (hs2.later hb02)).out.mono ?_
        rintro e w3 ⟨rfl, hb3⟩
        have hb03 := bl_call hb02 hb3
        have y3 := y2.call hb3
        clear c0 c1
        obtain ⟨c0, c1, _⟩ := y3.two
        go_wp2_with (fail)
        refine (H3 _ (hr.later hb03) (hs.later hb03) (hs2.later hb03)).out.mono ?_
        rintro e w4 ⟨A4, c4, rfl, ho4, hb4⟩
        have hb04 := bl_call hb03 hb4
        have y4 := y3.call hb4
        clear c0 c1
        obtain ⟨c0, c1, _⟩ := y4.two
        cases o with
        | none =>
          have hpl : planV none = [] := rfl
          rw [hpl] at ho4 ⊢
          clear hpl HFF HNB H1 H2 H3 H4 H5
          generalize farV none = v at *
          go_wp2_with (fail)
          refine (HK _).out.mono ?_
          rintro e w5 ⟨rfl, hb5⟩
          go_wp2_with (fail)
          go_ret
          exact ⟨rfl, bl_call hb04 hb5⟩
        | some a =>
          obtain rfl : e1 = 0 := HNB (by simp)
          obtain ⟨g1, g2, g3, b, g4, g5⟩ := HFF rfl a rfl
          have hPl : (planV (some a)).length ≤ 100000 := by rw [planV, List.length_reverse]; omega
          have HC := fun X y w1 h h' h'' => H4 X _ y w1 hPl h h' h''
          unfold OutP at HC
          rw [g1] at HC
          rw [g3, g4] at H5
          have hva : farV (some a) = (a.2.length : Int) := rfl
          have hvb : farV (some b) = (a.2.length : Int) := by rw [← g5]; rfl
          rw [hvb] at H5
          rw [hva]
          clear hva hvb HFF HNB H1 H2 H3 H4 g1 g3 g4 g5 hPl
          generalize planV (some a) = P at *
          generalize a.2.length = m at *
          go_wp2_with (fail)
          refine (HC _ _ _ (hr.later hb04) (hs.later hb04) (own_rd ho4).1).out.mono ?_
          rintro e w5 ⟨A5, c5, rfl, ho5, hb5⟩
          have hb05 := bl_call hb04 hb5
          have y5 := y4.call hb5
          clear c0 c1
          obtain ⟨c0, c1, _⟩ := y5.two
          go_wp2_with (fail)
          refine (H5 _ (hr.later hb05) (hs2.later hb05) (hs.later hb05)).out.mono ?_
          rintro e w6 ⟨rfl, hb6⟩
          have hb06 := bl_call hb05 hb6
          have HS := Lib.hid (sameInts_c A5 C q q c5 f w6 (by omega) ((own_rd ho5).1.later hb6) (hs2.later hb06))
          rw [show decide (q = q) = true by simp] at HS
          go_wp2_with (fail)
          refine HS.out.mono ?_
          rintro e w7 ⟨rfl, hb7⟩
          have hb07 := bl_call hb06 hb7
          go_wp2_with (fail)
          refine (HK _).out.mono ?_
          rintro e w8 ⟨rfl, hb8⟩
          go_wp2_with (fail)
          go_ret
          exact ⟨rfl, bl_call hb07 hb8⟩
end Go.Proofs.Ytjgpfnnokdcgoaa
