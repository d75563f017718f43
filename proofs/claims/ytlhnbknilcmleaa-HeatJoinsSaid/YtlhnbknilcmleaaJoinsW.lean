/- The walk of the law on plans behind one another. -/
import Derived.Test.YtlhnbknilcmleaaCatA
import Derived.Test.YtlhnbknilcmleaaFew
import Derived.Test.YtlhnbknilcmleaaKnownH
namespace Go.Proofs.Ytlhnbknilcmleaa
open Go.RowKit

theorem joinG_len (n : Int) (l m : List T3) : (joinG n l m).length ≤ 1000 := by
  rcases join_cases n l m with ⟨_, _, h⟩ | ⟨_, _, _, h⟩ | ⟨_, _, _, _, h⟩ | ⟨_, _, h1, _, h⟩
  · rw [h]; simp
  · rw [h]; simp
  · rw [h]; simp
  · rw [h, List.length_append]; omega
theorem join_few {n : Int} {l m : List T3} (h : joinE n l m = 0) : limE n l 5 = 0 ∧ limE n (joinG n l m) 5 = 0 ∧ fewG n l 5 ≤ fewG n (joinG n l m) 5 := by
  rcases join_cases n l m with ⟨h1, h2, _⟩ | ⟨_, h1, h2, _⟩ | ⟨_, _, _, h2, _⟩ | ⟨h1, h2, h3, _, h4⟩
  · exact absurd (h2.symm.trans h) h1
  · exact absurd (h2.symm.trans h) h1
  · rw [h2] at h; cases h
  · rw [h4]
    obtain ⟨a1, a2, a3⟩ := validE_zero.1 h1
    obtain ⟨_, _, b3⟩ := validE_zero.1 h2
    have hj : validE n (l ++ m) = 0 := validE_zero.2 ⟨a1, by rw [List.length_append]; omega, by rw [List.all_append, a3, b3]; rfl⟩
    have e1 : limE n l 5 = 0 := limE_zero.2 ⟨h1, by omega, by omega⟩
    have e2 : limE n (l ++ m) 5 = 0 := limE_zero.2 ⟨hj, by omega, by omega⟩
    refine ⟨e1, e2, ?_⟩
    rw [fewG_ok e1, fewG_ok e2]
    have := few_more 5 l m
    omega
set_option maxRecDepth 100000 in
set_option maxHeartbeats 4000000 in
theorem heatJoins_walk (n : Int) (A : Option Addr) (l : List T3) (c : Nat) (B : Option Addr) (m : List T3) (d : Nat) (w : World) (_hcap : l.length ≤ c) (_hcap2 : m.length ≤ d) (_hn : (Lit.int .i64 n).wf = true) (hr : Rd w A (cellsT l)) (hs : Rd w B (cellsT m)) :
    Calls Try.prog 14 #[.int .i64 n, .slice A l.length c, .slice B m.length d] w fun e w' => e = .returned (.bool true) ∧ Below w.heap.size w w' := by
  have HL := fun w => Lib.hid (long_c A l.length c w)
  have HL2 := fun w => Lib.hid (long_c B m.length d w)
  have HK := fun w => Lib.hid (known_c w)
  by_cases hlong : 100 < l.length
  · rw [decide_eq_true hlong] at HL
    go_enter Try.func14, Try.ntmps14
    go_wp2_with (fail)
    refine (HL _).out.mono ?_
    rintro e w1 ⟨rfl, rfl⟩
    go_wp2_with (fail)
    refine (HK _).out.mono ?_
    rintro e w2 ⟨rfl, hb2⟩
    go_wp2_with (fail)
    go_ret
    exact ⟨rfl, hb2⟩
  · rw [decide_eq_false hlong] at HL
    have hlen : l.length ≤ 1000 := by omega
    clear hlong
    by_cases hlong : 100 < m.length
    · rw [decide_eq_true hlong] at HL2
      go_enter Try.func14, Try.ntmps14
      go_wp2_with (fail)
      refine (HL _).out.mono ?_
      rintro e w1 ⟨rfl, rfl⟩
      go_wp2_with (fail)
      refine (HL2 _).out.mono ?_
      rintro e w1 ⟨rfl, rfl⟩
      go_wp2_with (fail)
      refine (HK _).out.mono ?_
      rintro e w2 ⟨rfl, hb2⟩
      go_wp2_with (fail)
      go_ret
      exact ⟨rfl, hb2⟩
    · rw [decide_eq_false hlong] at HL2
      have hlen' : m.length ≤ 1000 := by omega
      clear hlong
      have H1 := Lib.hid (Join_c n A B l m c d w hlen hlen' hr hs)
      have H2 := fun w1 h h2 => Lib.hid (rJoin_c n A B l m c d w1 hlen hlen' h h2)
      have hgl := joinG_len n l m
      have HS := fun A1 A2 c1 c2 w h1 h2 => Lib.hid (same_c A1 A2 (joinG n l m) (joinG n l m) c1 c2 w (by omega) h1 h2)
      rw [decide_eq_true (rfl : joinG n l m = joinG n l m)] at HS
      have H3 := fun w1 h => Lib.hid (Fewest_c n A l c 5 w1 hlen h)
      have H4 := fun A1 c1 w1 h => Lib.hid (Fewest_c n A1 (joinG n l m) c1 5 w1 hgl h)
      have HF := Lib.hid (@join_few n l m)
      generalize joinG n l m = F at *
      generalize fewG n l 5 = p at *
      generalize fewG n F 5 = q at *
      generalize joinE n l m = ev at *
      by_cases he : ev = 0
      · subst he
        obtain ⟨e1, e2, e3⟩ := HF.out rfl
        rw [e1] at H3
        rw [e2] at H4
        clear e1 e2
        go_enter Try.func14, Try.ntmps14
        go_wp2_with (fail)
        refine (HL _).out.mono ?_
        rintro e w1 ⟨rfl, rfl⟩
        go_wp2_with (fail)
        refine (HL2 _).out.mono ?_
        rintro e w1 ⟨rfl, rfl⟩
        go_wp2_with (fail)
        refine H1.out.mono ?_
        rintro e w1 ⟨A1, c1, rfl, ho1, hb1⟩
        go_wp2_with (fail)
        refine (H2 _ (hr.later hb1) (hs.later hb1)).out.mono ?_
        rintro e w2 ⟨A2, c2, rfl, ho2, hb2⟩
        have hb12 := bl_call hb1 hb2
        have hs1 := (own_rd ho1).1.later hb2
        have hs2 := (own_rd ho2).1
        go_wp2_with (fail)
        refine (HS A1 A2 c1 c2 _ hs1 hs2).out.mono ?_
        rintro e w3 ⟨rfl, hb3⟩
        have hb13 := bl_call hb12 hb3
        go_wp2_with (fail)
        refine (H3 _ (hr.later hb13)).out.mono ?_
        rintro e w4 ⟨rfl, hb4⟩
        go_wp2_with (fail)
        refine (H4 _ _ _ ((hs1.later hb3).later hb4)).out.mono ?_
        rintro e w5 ⟨rfl, hb5⟩
        go_wp2_with (fail)
        refine (HK _).out.mono ?_
        rintro e wk ⟨rfl, hbk⟩
        go_wp2_with (fail)
        go_ret
        exact ⟨rfl, bl_call (bl_call (bl_call hb13 hb4) hb5) hbk⟩
      · have he' : (ev != 0) = true := by simpa using he
        generalize limE n l 5 = lv at *
        generalize limE n F 5 = lv2 at *
        go_enter Try.func14, Try.ntmps14
        go_wp2_with (fail)
        refine (HL _).out.mono ?_
        rintro e w1 ⟨rfl, rfl⟩
        go_wp2_with (fail)
        refine (HL2 _).out.mono ?_
        rintro e w1 ⟨rfl, rfl⟩
        go_wp2_with (fail)
        refine H1.out.mono ?_
        rintro e w1 ⟨A1, c1, rfl, ho1, hb1⟩
        go_wp2_with (fail)
        refine (H2 _ (hr.later hb1) (hs.later hb1)).out.mono ?_
        rintro e w2 ⟨A2, c2, rfl, ho2, hb2⟩
        have hb12 := bl_call hb1 hb2
        have hs1 := (own_rd ho1).1.later hb2
        have hs2 := (own_rd ho2).1
        go_wp2_with (fail)
        refine (HS A1 A2 c1 c2 _ hs1 hs2).out.mono ?_
        rintro e w3 ⟨rfl, hb3⟩
        have hb13 := bl_call hb12 hb3
        go_wp2_with (fail)
        refine (H3 _ (hr.later hb13)).out.mono ?_
        rintro e w4 ⟨rfl, hb4⟩
        go_wp2_with (fail)
        refine (H4 _ _ _ ((hs1.later hb3).later hb4)).out.mono ?_
        rintro e w5 ⟨rfl, hb5⟩
        go_wp2_with (fail)
        refine (HK _).out.mono ?_
        rintro e wk ⟨rfl, hbk⟩
        go_wp2_with (fail)
        go_ret
        exact ⟨rfl, bl_call (bl_call (bl_call hb13 hb4) hb5) hbk⟩
end Go.Proofs.Ytlhnbknilcmleaa
