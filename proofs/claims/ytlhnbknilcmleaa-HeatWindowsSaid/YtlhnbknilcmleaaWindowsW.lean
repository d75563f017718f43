/- The walk of the law on windows. -/
import Derived.Test.YtlhnbknilcmleaaFew
import Derived.Test.YtlhnbknilcmleaaRchw
import Derived.Test.YtlhnbknilcmleaaKnownH
namespace Go.Proofs.Ytlhnbknilcmleaa
open Go.RowKit

set_option maxRecDepth 100000 in
set_option maxHeartbeats 4000000 in
theorem heatWindows_walk (n : Int) (A : Option Addr) (l : List T3) (c : Nat) (B : Option Addr) (v : List T3) (d : Nat) (lim : Int) (w0 : World) (hcap : l.length ≤ c) (hcap2 : v.length ≤ d) (_hn : (Lit.int .i64 n).wf = true) (hr0 : Rd w0 A (cellsT l)) (hs0 : Rd w0 B (cellsT v)) (_hl : (Lit.int .i64 lim).wf = true) :
    Calls Try.prog 9 #[.int .i64 n, .slice A l.length c, .agg #[.slice B v.length d, .int .i64 lim]] w0 fun e w' => e = .returned (.bool true) ∧ Below w0.heap.size w0 w' := by
  have HL := fun w => Lib.hid (long_c A l.length c w)
  have HK := fun w => Lib.hid (known_c w)
  have hx := Bx.new w0 50 #[.slice B v.length d, .int .i64 lim]
  have hb0 := bl_alloc (Below.refl w0.heap.size w0) (.cells #[.slice B v.length d, .int .i64 lim] 50)
  have hr := hr0.later hb0
  have hs := hs0.later hb0
  obtain ⟨w, hw⟩ : ∃ w, w = w0.alloc (.cells #[.slice B v.length d, .int .i64 lim] 50) := ⟨_, rfl⟩
  rw [← hw] at hx hb0 hr hs
  obtain ⟨x0, x1, _, _⟩ := hx.two
  by_cases hlong : 100 < l.length
  · rw [decide_eq_true hlong] at HL
    go_enter Try.func9, Try.ntmps9
    go_wp2_with (fail)
    refine (HL _).out.mono ?_
    rintro e wl ⟨rfl, rfl⟩
    rw [← hw]
    clear hw
    go_wp2_with (fail)
    refine (HK _).out.mono ?_
    rintro e w2 ⟨rfl, hb2⟩
    go_wp2_with (fail)
    go_ret
    exact ⟨rfl, bl_call hb0 hb2⟩
  · rw [decide_eq_false hlong] at HL
    have hlen : l.length ≤ 1000 := by omega
    clear hlong
    by_cases hlong : (100 : Int) < (v.length : Int)
    · skip
      go_enter Try.func9, Try.ntmps9
      go_wp2_with (fail)
      refine (HL _).out.mono ?_
      rintro e wl ⟨rfl, rfl⟩
      rw [← hw]
      clear hw
      go_wp2_with (fail)
      refine (HK _).out.mono ?_
      rintro e w2 ⟨rfl, hb2⟩
      go_wp2_with (fail)
      go_ret
      exact ⟨rfl, bl_call hb0 hb2⟩
    · have hvl : v.length ≤ 1000 := by omega
      have H1 := Lib.hid (CheckWindows_c n A l c lim B v d w hlen hcap hvl hcap2 hr hs)
      have H2 := fun w1 h h2 => Lib.hid (rCheckWindows_c n A l c lim B v d w1 hlen hcap hvl h h2)
      have H3 := fun w1 h => Lib.hid (Fewest_c n A l c lim w1 hlen h)
      have HF : Hid (winE n l lim v = 0 → limE n l lim = 0 ∧ winV n l lim v ≤ fewG n l lim) := fun h => by
        have h1 := (winE_zero.1 h).1
        refine ⟨h1, ?_⟩
        rw [fewG_ok h1, winV, if_pos h]
        have := win_le h
        omega
      generalize winV n l lim v = a at *
      generalize winE n l lim v = ev at *
      generalize fewG n l lim = k at *
      by_cases he : ev = 0
      · subst he
        obtain ⟨e1, e2⟩ := HF.out rfl
        rw [e1] at H3
        have e2' : ¬ (k < a) := by omega
        clear e1
        go_enter Try.func9, Try.ntmps9
        go_wp2_with (fail)
        refine (HL _).out.mono ?_
        rintro e wl ⟨rfl, rfl⟩
        rw [← hw]
        clear hw
        go_wp2_with (fail)
        refine H1.out.mono ?_
        rintro e w1 ⟨rfl, hb1⟩
        obtain ⟨y0, y1, _, _⟩ := (hx.call hb1).two
        go_wp2_with (fail)
        refine (H2 _ (hr.later hb1) (hs.later hb1)).out.mono ?_
        rintro e w2 ⟨rfl, hb2⟩
        have hb12 := bl_call hb1 hb2
        obtain ⟨z0, z1, _, _⟩ := (hx.call hb12).two
        go_wp2_with (fail)
        refine (H3 _ (hr.later hb12)).out.mono ?_
        rintro e w3 ⟨rfl, hb3⟩
        go_wp2_with (fail)
        refine (HK _).out.mono ?_
        rintro e wk ⟨rfl, hbk⟩
        go_wp2_with (fail)
        go_ret
        exact ⟨rfl, bl_call (bl_call (bl_call hb0 hb12) hb3) hbk⟩
      · have he' : (ev != 0) = true := by simpa using he
        generalize limE n l lim = lv at *
        go_enter Try.func9, Try.ntmps9
        go_wp2_with (fail)
        refine (HL _).out.mono ?_
        rintro e wl ⟨rfl, rfl⟩
        rw [← hw]
        clear hw
        go_wp2_with (fail)
        refine H1.out.mono ?_
        rintro e w1 ⟨rfl, hb1⟩
        obtain ⟨y0, y1, _, _⟩ := (hx.call hb1).two
        go_wp2_with (fail)
        refine (H2 _ (hr.later hb1) (hs.later hb1)).out.mono ?_
        rintro e w2 ⟨rfl, hb2⟩
        have hb12 := bl_call hb1 hb2
        obtain ⟨z0, z1, _, _⟩ := (hx.call hb12).two
        go_wp2_with (fail)
        refine (H3 _ (hr.later hb12)).out.mono ?_
        rintro e w3 ⟨rfl, hb3⟩
        go_wp2_with (fail)
        refine (HK _).out.mono ?_
        rintro e wk ⟨rfl, hbk⟩
        go_wp2_with (fail)
        go_ret
        exact ⟨rfl, bl_call (bl_call (bl_call hb0 hb12) hb3) hbk⟩
end Go.Proofs.Ytlhnbknilcmleaa
