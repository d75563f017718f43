/- The walk of the law on the gates of two types. -/
import Derived.Test.YteoajadcdjaalaaRpair2
import Derived.Test.YteoajadcdjaalaaFirstsW
namespace Go.Proofs.Yteoajadcdjaalaa
open Go.RowKit

theorem Bx.eight {w : World} {g : Nat} {T : TypeId} {u v x y u' v' x' y' : Value} (h : Bx w g T #[u, v, x, y, u', v', x', y']) :
    (w.cell? ⟨g, 0, none⟩ = some u ∧ w.cell? ⟨g, 1, none⟩ = some v ∧ w.cell? ⟨g, 2, none⟩ = some x ∧ w.cell? ⟨g, 3, none⟩ = some y) ∧ w.cell? ⟨g, 4, none⟩ = some u' ∧ w.cell? ⟨g, 5, none⟩ = some v' ∧ w.cell? ⟨g, 6, none⟩ = some x' ∧ w.cell? ⟨g, 7, none⟩ = some y' :=
  ⟨⟨h.cell 0, h.cell 1, h.cell 2, h.cell 3⟩, h.cell 4, h.cell 5, h.cell 6, h.cell 7⟩

set_option maxRecDepth 100000 in
set_option maxHeartbeats 4000000 in
theorem circuitPairs_walk (n : Int) (A : Option Addr) (l : List G) (c : Nat) (k a b t k' a' b' t' : Int) (w : World) (_hn : (Lit.int .i64 n).wf = true) (hr : Rd w A (cellsG l)) :
    Calls Try.prog 15 #[.int .i64 n, .slice A l.length c, .agg #[.int .i64 k, .int .i64 a, .int .i64 b, .int .i64 t, .int .i64 k', .int .i64 a', .int .i64 b', .int .i64 t']] w fun e w' => e = .returned (.bool true) ∧ Below w.heap.size w w' := by
  have HL := fun w => Lib.hid (long_c A l.length c w)
  have HK := fun w => Lib.hid (known_c w)
  have x0 := Bx.new w 54 #[.int .i64 k, .int .i64 a, .int .i64 b, .int .i64 t, .int .i64 k', .int .i64 a', .int .i64 b', .int .i64 t']
  have hb0 := bl_alloc (Below.refl w.heap.size w) (.cells #[.int .i64 k, .int .i64 a, .int .i64 b, .int .i64 t, .int .i64 k', .int .i64 a', .int .i64 b', .int .i64 t'] 54)
  generalize hw0 : w.alloc (.cells #[.int .i64 k, .int .i64 a, .int .i64 b, .int .i64 t, .int .i64 k', .int .i64 a', .int .i64 b', .int .i64 t'] 54) = w0 at *
  by_cases hlong : 50 < l.length
  · rw [decide_eq_true hlong] at HL
    go_enter Try.func15, Try.ntmps15
    go_wp2_with (fail)
    refine (HL _).out.mono ?_
    rintro e w1 ⟨rfl, rfl⟩
    go_wp2_with (fail)
    refine (HK _).out.mono ?_
    rintro e w2 ⟨rfl, hb2⟩
    go_wp2_with (fail)
    go_ret
    exact ⟨rfl, bl_call hb0 hb2⟩
  · rw [decide_eq_false hlong] at HL
    have hlen : l.length ≤ 1000 := by omega
    clear hlong
    have H1 := fun w1 hr1 => Lib.hid (Pair_c n A l c k a b t k' a' b' t' w1 hlen hr1)
    have H2 := fun w1 hr1 => Lib.hid (rPair_c n A l c k a b t k' a' b' t' w1 hlen hr1)
    have H3 := fun w1 hr1 => Lib.hid (Angle_c n A l c k a b t w1 hlen hr1)
    have H4 := fun w1 hr1 => Lib.hid (rAngle_c n A l c k a b t w1 hlen hr1)
    have HPl : (pairG n l (k, a, b, t) (k', a', b', t')).length ≤ 1000 := by
      have := pairTo_len l (k, a, b, t) (k', a', b', t') l.length
      rw [pairG]; split
      · omega
      · simp
    generalize pairG n l (k, a, b, t) (k', a', b', t') = P at *
    generalize withE n l [(k, a, b, t), (k', a', b', t')] = e2 at *
    generalize angleE n l (k, a, b, t) = g1 at *
    generalize withE n l [(k, a, b, t)] = e1 at *
    go_enter Try.func15, Try.ntmps15
    go_wp2_with (fail)
    refine (HL _).out.mono ?_
    rintro e w1 ⟨rfl, rfl⟩
    obtain ⟨⟨i1, i2, i3, i4⟩, j1, j2, j3, j4⟩ := x0.eight
    go_wp2_with (fail)
    refine (H1 _ (hr.later hb0)).out.mono ?_
    rintro e w1 ⟨A1, c1, rfl, ho1, hb1⟩
    clear i1 i2 i3 i4 j1 j2 j3 j4
    obtain ⟨⟨i1, i2, i3, i4⟩, j1, j2, j3, j4⟩ := (x0.call hb1).eight
    go_wp2_with (fail)
    refine (H2 _ (hr.later (bl_call hb0 hb1))).out.mono ?_
    rintro e w2 ⟨A2, c2, rfl, ho2, hb2⟩
    have hb12 := bl_call hb1 hb2
    have hr1 := (own_rd ho1).1.later hb2
    have hr2 := (own_rd ho2).1
    clear i1 i2 i3 i4 j1 j2 j3 j4
    obtain ⟨⟨i1, i2, i3, i4⟩, j1, j2, j3, j4⟩ := (x0.call hb12).eight
    go_wp2_with (fail)
    refine (H3 _ (hr.later (bl_call hb0 hb12))).out.mono ?_
    rintro e w3 ⟨rfl, hb3⟩
    have hb13 := bl_call hb12 hb3
    clear i1 i2 i3 i4 j1 j2 j3 j4
    obtain ⟨⟨i1, i2, i3, i4⟩, j1, j2, j3, j4⟩ := (x0.call hb13).eight
    go_wp2_with (fail)
    refine (H4 _ (hr.later (bl_call hb0 hb13))).out.mono ?_
    rintro e w4 ⟨rfl, hb4⟩
    have hb14 := bl_call hb13 hb4
    have HS := Lib.hid (same_c A1 A2 P P c1 c2 w4 HPl (hr1.later (bl_call hb3 hb4)) (hr2.later (bl_call hb3 hb4)))
    rw [show sameL P P = true by simp [sameL]] at HS
    clear i1 i2 i3 i4 j1 j2 j3 j4
    go_wp2_with (fail)
    refine HS.out.mono ?_
    rintro e w5 ⟨rfl, hb5⟩
    have hb15 := bl_call hb14 hb5
    go_wp2_with (fail)
    refine (HK _).out.mono ?_
    rintro e w6 ⟨rfl, hb6⟩
    go_wp2_with (fail)
    go_ret
    exact ⟨rfl, bl_call hb0 (bl_call hb15 hb6)⟩
end Go.Proofs.Yteoajadcdjaalaa
