/- The walk of the law on two ions that exchange their zones. -/
import Derived.Test.YtjgpfnnokdcgoaaKnownZ
import Derived.Test.YtjgpfnnokdcgoaaReachL
import Derived.Test.YtjgpfnnokdcgoaaRswap
import Derived.Test.YtjgpfnnokdcgoaaMovesW
namespace Go.Proofs.Ytjgpfnnokdcgoaa
open Go.RowKit Go.Maps

set_option maxRecDepth 100000 in
set_option maxHeartbeats 8000000 in
theorem zoneSwaps_walk (Z : Int) (A : Option Addr) (l : List (Int × Int)) (c : Nat) (B : Option Addr) (p : List Int) (d : Nat) (i j : Int) (w : World) (_hcap : l.length ≤ c) (hcap : p.length ≤ d) (hr : Rd w A (cellsP l)) (hs : Rd w B (ints p)) (_hi : (Lit.int .i64 i).wf = true) (_hj : (Lit.int .i64 j).wf = true) :
    Calls Try.prog 9 #[trapV Z A l.length c, .slice B p.length d, .agg #[.int .i64 i, .int .i64 j]] w fun e w' => e = .returned (.bool true) ∧ Below w.heap.size w w' := by
  have HL := fun w => Lib.hid (long_c Z A l.length c w)
  have HM := fun w => Lib.hid (many_c B p.length d w)
  have HK := fun w => Lib.hid (known_c w)
  have x0 : Bx ((w.alloc (.cells #[.int .i64 Z, .slice A l.length c] 24)).alloc (.cells #[.int .i64 i, .int .i64 j] 56)) w.heap.size 24 #[.int .i64 Z, .slice A l.length c] := (Bx.newAt rfl).alloc _
  have z0 : Bx ((w.alloc (.cells #[.int .i64 Z, .slice A l.length c] 24)).alloc (.cells #[.int .i64 i, .int .i64 j] 56)) (w.heap.size + 1) 56 #[.int .i64 i, .int .i64 j] := Bx.newAt (by simp)
  have hb0 := bl_alloc (bl_alloc (Below.refl w.heap.size w) (.cells #[.int .i64 Z, .slice A l.length c] 24)) (.cells #[.int .i64 i, .int .i64 j] 56)
  generalize hw0 : (w.alloc (.cells #[.int .i64 Z, .slice A l.length c] 24)).alloc (.cells #[.int .i64 i, .int .i64 j] 56) = w0 at *
  obtain ⟨c0, c1, _⟩ := x0.two
  obtain ⟨d0, d1, _⟩ := z0.two
  by_cases hlong : 60 < l.length
  · rw [decide_eq_true hlong] at HL
    go_enter Try.func9, Try.ntmps9
    go_wp2_with (fail)
    refine (HL _).out.mono ?_
    rintro e w1 ⟨rfl, hb1⟩
    go_wp2_with (fail)
    refine (HK _).out.mono ?_
    rintro e w2 ⟨rfl, hb2⟩
    go_wp2_with (fail)
    go_ret
    exact ⟨rfl, bl_call hb0 (bl_call hb1 hb2)⟩
  · rw [decide_eq_false hlong] at HL
    by_cases hmany : 40 < p.length
    · rw [decide_eq_true hmany] at HM
      go_enter Try.func9, Try.ntmps9
      go_wp2_with (fail)
      refine (HL _).out.mono ?_
      rintro e w1 ⟨rfl, hb1⟩
      go_wp2_with (fail)
      refine (HM _).out.mono ?_
      rintro e w2 ⟨rfl, rfl⟩
      go_wp2_with (fail)
      refine (HK _).out.mono ?_
      rintro e w2 ⟨rfl, hb2⟩
      go_wp2_with (fail)
      go_ret
      exact ⟨rfl, bl_call hb0 (bl_call hb1 hb2)⟩
    · rw [decide_eq_false hmany] at HM
      have hlen : l.length ≤ 1000 := by omega
      have hlen' : p.length ≤ 1000 := by omega
      have H1 := fun w1 hr1 hs1 => Lib.hid (CanSwap_c Z A B l p c d i j w1 hlen hlen' hr1 hs1)
      have H2 := fun w1 hr1 hs1 => Lib.hid (rCanSwap_c Z A B l p c d i j w1 hlen hlen' hcap hr1 hs1)
      have H3 := fun w1 hr1 hs1 => Lib.hid (CanSwap_c Z A B l p c d j i w1 hlen hlen' hr1 hs1)
      have HS : swapE Z l p i j = 0 → i = j → swapG Z l p i j = true := fun h e => by subst e; exact swapG_self h
      rw [← swapG_comm Z l p i j, ← swapE_comm Z l p i j] at H3
      clear hlong hmany
      generalize swapG Z l p i j = a at *
      generalize swapE Z l p i j = e1 at *
      have hcs : (¬ e1 = 0) ∨ (e1 = 0 ∧ ¬ i = j) ∨ (e1 = 0 ∧ i = j ∧ a = true) := by
        by_cases q1 : e1 = 0
        · by_cases q2 : i = j
          · exact .inr (.inr ⟨q1, q2, HS q1 q2⟩)
          · exact .inr (.inl ⟨q1, q2⟩)
        · exact .inl q1
      clear HS
      go_enter Try.func9, Try.ntmps9
      go_wp2_with (fail)
      refine (HL _).out.mono ?_
      rintro e w1 ⟨rfl, hb1⟩
      go_wp2_with (fail)
      refine (HM _).out.mono ?_
      rintro e w2 ⟨rfl, rfl⟩
      have y1 := x0.call hb1
      have z1 := z0.call hb1
      have hb01 := bl_call hb0 hb1
      clear c0 c1 d0 d1
      obtain ⟨c0, c1, _⟩ := y1.two
      obtain ⟨d0, d1, _⟩ := z1.two
      go_wp2_with (fail)
      refine (H1 _ (hr.later hb01) (hs.later hb01)).out.mono ?_
      rintro e w2 ⟨rfl, hb2⟩
      have hb02 := bl_call hb01 hb2
      have y2 := y1.call hb2
      have z2 := z1.call hb2
      clear c0 c1 d0 d1
      obtain ⟨c0, c1, _⟩ := y2.two
      obtain ⟨d0, d1, _⟩ := z2.two
      go_wp2_with (fail)
      refine (H2 _ (hr.later hb02) (hs.later hb02)).out.mono ?_
      rintro e w3 ⟨rfl, hb3⟩
      have hb03 := bl_call hb02 hb3
      have y3 := y2.call hb3
      have z3 := z2.call hb3
      clear c0 c1 d0 d1
      obtain ⟨c0, c1, _⟩ := y3.two
      obtain ⟨d0, d1, _⟩ := z3.two
      go_wp2_with (fail)
      refine (H3 _ (hr.later hb03) (hs.later hb03)).out.mono ?_
      rintro e w4 ⟨rfl, hb4⟩
      have hb04 := bl_call hb03 hb4
      have z4 := z3.call hb4
      clear c0 c1 d0 d1 H1 H2 H3
      obtain ⟨d0, d1, _⟩ := z4.two
      rcases hcs with q1 | ⟨rfl, q2⟩ | ⟨rfl, rfl, rfl⟩
      all_goals
        go_wp2_with (fail)
        refine (HK _).out.mono ?_
        rintro e w5 ⟨rfl, hb5⟩
        go_wp2_with (fail)
        go_ret
        exact ⟨rfl, bl_call hb04 hb5⟩
end Go.Proofs.Ytjgpfnnokdcgoaa
