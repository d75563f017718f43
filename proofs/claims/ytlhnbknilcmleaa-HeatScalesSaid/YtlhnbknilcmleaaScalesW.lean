/- The walk of the law on plans with all heats multiplied. -/
import Derived.Test.YtlhnbknilcmleaaRsca
import Derived.Test.YtlhnbknilcmleaaHeatS
import Derived.Test.YtlhnbknilcmleaaFew
import Derived.Test.YtlhnbknilcmleaaKnownH
namespace Go.Proofs.Ytlhnbknilcmleaa
open Go.RowKit

theorem scl_few {n b lim : Int} {l : List T3} (hb : 1 ≤ b) (hl : 0 ≤ lim ∧ lim ≤ 100) (hp : lim * b ≤ 100) (h : sclE n l b = 0) : limE n l lim = 0 ∧ limE n (sclG n l b) (lim * b) = 0 ∧ fewG n (sclG n l b) (lim * b) = fewG n l lim := by
  obtain ⟨h1, h2, h3⟩ := scl_valid hb h
  have e1 : limE n l lim = 0 := limE_zero.2 ⟨h1, hl⟩
  have e2 : limE n (sclG n l b) (lim * b) = 0 := limE_zero.2 ⟨h2, Int.mul_nonneg hl.1 (by omega), hp⟩
  refine ⟨e1, e2, ?_⟩
  rw [fewG_ok e1, fewG_ok e2, h3, few_scl hb]
theorem scl_law (b lim : Int) : b < 1 ∨ (¬ b < 1 ∧ 100 < b) ∨ (¬ b < 1 ∧ ¬ 100 < b ∧ lim < 0) ∨ (¬ b < 1 ∧ ¬ 100 < b ∧ ¬ lim < 0 ∧ 100 < lim) ∨ (¬ b < 1 ∧ ¬ 100 < b ∧ ¬ lim < 0 ∧ ¬ 100 < lim ∧ wrap64 (lim * b) = lim * b ∧ 100 < lim * b) ∨ (¬ b < 1 ∧ ¬ 100 < b ∧ ¬ lim < 0 ∧ ¬ 100 < lim ∧ wrap64 (lim * b) = lim * b ∧ ¬ 100 < lim * b) := by
  by_cases h1 : b < 1
  · exact .inl h1
  by_cases h2 : 100 < b
  · exact .inr (.inl ⟨h1, h2⟩)
  by_cases h3 : lim < 0
  · exact .inr (.inr (.inl ⟨h1, h2, h3⟩))
  by_cases h4 : 100 < lim
  · exact .inr (.inr (.inr (.inl ⟨h1, h2, h3, h4⟩)))
  have e1 : 0 ≤ lim * b := Int.mul_nonneg (by omega) (by omega)
  have e2 : lim * b ≤ 100 * b := Int.mul_le_mul_of_nonneg_right (by omega) (by omega)
  have hw : wrap64 (lim * b) = lim * b := by
    generalize lim * b = p at *
    exact IntWalk.wrap64_in _ ⟨by omega, by omega⟩
  by_cases h5 : 100 < lim * b
  · exact .inr (.inr (.inr (.inr (.inl ⟨h1, h2, h3, h4, hw, h5⟩))))
  · exact .inr (.inr (.inr (.inr (.inr ⟨h1, h2, h3, h4, hw, h5⟩))))

set_option maxRecDepth 100000 in
set_option maxHeartbeats 8000000 in
theorem heatScales_walk (n : Int) (A : Option Addr) (l : List T3) (c : Nat) (lim b : Int) (w0 : World) (_hcap : l.length ≤ c) (_hn : (Lit.int .i64 n).wf = true) (hr0 : Rd w0 A (cellsT l)) (_hl : (Lit.int .i64 lim).wf = true) (_hb : (Lit.int .i64 b).wf = true) :
    Calls Try.prog 16 #[.int .i64 n, .slice A l.length c, .agg #[.int .i64 lim, .int .i64 b]] w0 fun e w' => e = .returned (.bool true) ∧ Below w0.heap.size w0 w' := by
  have HL := fun w => Lib.hid (long_c A l.length c w)
  have HK := fun w => Lib.hid (known_c w)
  have hx := Bx.new w0 63 #[.int .i64 lim, .int .i64 b]
  have hb0 := bl_alloc (Below.refl w0.heap.size w0) (.cells #[.int .i64 lim, .int .i64 b] 63)
  have hr := hr0.later hb0
  obtain ⟨w, hw⟩ : ∃ w, w = w0.alloc (.cells #[.int .i64 lim, .int .i64 b] 63) := ⟨_, rfl⟩
  rw [← hw] at hx hb0 hr
  obtain ⟨x0, x1, _, _⟩ := hx.two
  by_cases hlong : 100 < l.length
  · rw [decide_eq_true hlong] at HL
    go_enter Try.func16, Try.ntmps16
    go_wp2_with (fail)
    refine (HL _).out.mono ?_
    rintro e wl ⟨rfl, rfl⟩
    rw [← hw]
    clear hw
    go_wp2_with (fail)
    refine (HK _).out.mono ?_
    rintro e w2 ⟨rfl, hb2⟩
    go_wp2_with (fail)
    go_ret
    exact ⟨rfl, bl_call hb0 hb2⟩
  · rw [decide_eq_false hlong] at HL
    have hlen : l.length ≤ 1000 := by omega
    clear hlong
    have H1 := Lib.hid (Scale_c n A l c b w hlen hr)
    have H2 := fun w1 h => Lib.hid (rScale_c n A l c b w1 hlen h)
    have hgl : (sclG n l b).length ≤ 1000 := by have := sclG_len n l b; omega
    have HS := fun A1 A2 c1 c2 w h1 h2 => Lib.hid (same_c A1 A2 (sclG n l b) (sclG n l b) c1 c2 w (by omega) h1 h2)
    rw [decide_eq_true (rfl : sclG n l b = sclG n l b)] at HS
    have H3 := fun w1 h => Lib.hid (Fewest_c n A l c lim w1 hlen h)
    have H4 := fun A1 c1 w1 h => Lib.hid (Fewest_c n A1 (sclG n l b) c1 (lim * b) w1 hgl h)
    have HF := Lib.hid (@scl_few n b lim l)
    generalize sclG n l b = F at *
    generalize fewG n F (lim * b) = q at *
    generalize fewG n l lim = p at *
    generalize sclE n l b = ev at *
    by_cases he : ev = 0
    · subst he
      have HX : Hid (¬ b < 1 → ¬ lim < 0 → ¬ 100 < lim → ¬ 100 < lim * b → limE n l lim = 0 ∧ limE n F (lim * b) = 0 ∧ q = p) := fun h1 h2 h3 h4 => HF.out (by omega) ⟨by omega, by omega⟩ (by omega) rfl
      clear HF
      rcases scl_law b lim with h1 | ⟨h1, h2⟩ | ⟨h1, h2, h3⟩ | ⟨h1, h2, h3, h4⟩ | ⟨h1, h2, h3, h4, h5, h6⟩ | ⟨h1, h2, h3, h4, h5, h6⟩
      rotate_right 1
      · obtain ⟨e1, e2, rfl⟩ := HX.out h1 h3 h4 h6
        rw [e1] at H3
        rw [e2] at H4
        clear e1 e2 HX
        go_enter Try.func16, Try.ntmps16
        go_wp2_with (fail)
        refine (HL _).out.mono ?_
        rintro e wl ⟨rfl, rfl⟩
        rw [← hw]
        clear hw
        go_wp2_with (fail)
        refine H1.out.mono ?_
        rintro e w1 ⟨A1, c1, rfl, ho1, hb1⟩
        obtain ⟨y0, y1, _, _⟩ := (hx.call hb1).two
        go_wp2_with (fail)
        refine (H2 _ (hr.later hb1)).out.mono ?_
        rintro e w2 ⟨A2, c2, rfl, ho2, hb2⟩
        have hb12 := bl_call hb1 hb2
        have hs1 := (own_rd ho1).1.later hb2
        have hs2 := (own_rd ho2).1
        go_wp2_with (fail)
        refine (HS A1 A2 c1 c2 _ hs1 hs2).out.mono ?_
        rintro e w3 ⟨rfl, hb3⟩
        have hb13 := bl_call hb12 hb3
        obtain ⟨z0, z1, _, _⟩ := (hx.call hb13).two
        clear x0 x1 y0 y1
        go_wp2_with (fail)
        refine (H3 _ (hr.later hb13)).out.mono ?_
        rintro e w4 ⟨rfl, hb4⟩
        obtain ⟨u0, u1, _, _⟩ := (hx.call (bl_call hb13 hb4)).two
        go_wp2_with (fail)
        refine (H4 _ _ _ ((hs1.later hb3).later hb4)).out.mono ?_
        rintro e w5 ⟨rfl, hb5⟩
        go_wp2_with (fail)
        refine (HK _).out.mono ?_
        rintro e wk ⟨rfl, hbk⟩
        go_wp2_with (fail)
        go_ret
        exact ⟨rfl, bl_call (bl_call (bl_call (bl_call hb0 hb13) hb4) hb5) hbk⟩
      all_goals
        clear HX H3 H4
        go_enter Try.func16, Try.ntmps16
        go_wp2_with (fail)
        refine (HL _).out.mono ?_
        rintro e wl ⟨rfl, rfl⟩
        rw [← hw]
        clear hw
        go_wp2_with (fail)
        refine H1.out.mono ?_
        rintro e w1 ⟨A1, c1, rfl, ho1, hb1⟩
        obtain ⟨y0, y1, _, _⟩ := (hx.call hb1).two
        go_wp2_with (fail)
        refine (H2 _ (hr.later hb1)).out.mono ?_
        rintro e w2 ⟨A2, c2, rfl, ho2, hb2⟩
        have hb12 := bl_call hb1 hb2
        have hs1 := (own_rd ho1).1.later hb2
        have hs2 := (own_rd ho2).1
        go_wp2_with (fail)
        refine (HS A1 A2 c1 c2 _ hs1 hs2).out.mono ?_
        rintro e w3 ⟨rfl, hb3⟩
        have hb13 := bl_call hb12 hb3
        obtain ⟨z0, z1, _, _⟩ := (hx.call hb13).two
        clear x0 x1 y0 y1
        go_wp2_with (fail)
        refine (HK _).out.mono ?_
        rintro e wk ⟨rfl, hbk⟩
        go_wp2_with (fail)
        go_ret
        exact ⟨rfl, bl_call (bl_call hb0 hb13) hbk⟩
    · have he' : (ev != 0) = true := by simpa using he
      clear HF H3 H4
      go_enter Try.func16, Try.ntmps16
      go_wp2_with (fail)
      refine (HL _).out.mono ?_
      rintro e wl ⟨rfl, rfl⟩
      rw [← hw]
      clear hw
      go_wp2_with (fail)
      refine H1.out.mono ?_
      rintro e w1 ⟨A1, c1, rfl, ho1, hb1⟩
      obtain ⟨y0, y1, _, _⟩ := (hx.call hb1).two
      go_wp2_with (fail)
      refine (H2 _ (hr.later hb1)).out.mono ?_
      rintro e w2 ⟨A2, c2, rfl, ho2, hb2⟩
      have hb12 := bl_call hb1 hb2
      have hs1 := (own_rd ho1).1.later hb2
      have hs2 := (own_rd ho2).1
      go_wp2_with (fail)
      refine (HS A1 A2 c1 c2 _ hs1 hs2).out.mono ?_
      rintro e w3 ⟨rfl, hb3⟩
      have hb13 := bl_call hb12 hb3
      obtain ⟨z0, z1, _, _⟩ := (hx.call hb13).two
      clear x0 x1 y0 y1
      go_wp2_with (fail)
      refine (HK _).out.mono ?_
      rintro e wk ⟨rfl, hbk⟩
      go_wp2_with (fail)
      go_ret
      exact ⟨rfl, bl_call (bl_call hb0 hb13) hbk⟩
end Go.Proofs.Ytlhnbknilcmleaa
