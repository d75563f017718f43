/- The walk of the law on which gates commute. -/
import Derived.Test.YteoajadcdjaalaaKnownG
import Derived.Test.YteoajadcdjaalaaRcomm
import Derived.Test.YteoajadcdjaalaaAlkM
namespace Go.Proofs.Yteoajadcdjaalaa
open Go.RowKit

theorem commE_symm (g h : G) : commE g h = commE h g := by simp only [commE, gatesE, List.all_cons, List.all_nil, Bool.and_true]; rw [Bool.and_comm]
theorem commR_symm (g h : G) : commR g h = commR h g := by rw [commR, commR, commE_symm, commG_symm]

set_option maxRecDepth 100000 in
set_option maxHeartbeats 1000000 in
theorem circuitCommutes_walk (k a b t k' a' b' t' : Int) (w : World) : Calls Try.prog 3 #[.agg #[.int .i64 k, .int .i64 a, .int .i64 b, .int .i64 t], .agg #[.int .i64 k', .int .i64 a', .int .i64 b', .int .i64 t']] w
    fun e w' => e = .returned (.bool true) ∧ Below w.heap.size w w' := by
  have x0 := (Bx.new w 23 #[.int .i64 k, .int .i64 a, .int .i64 b, .int .i64 t]).alloc (.cells #[.int .i64 k', .int .i64 a', .int .i64 b', .int .i64 t'] 23)
  have x1 : Bx ((w.alloc (.cells #[.int .i64 k, .int .i64 a, .int .i64 b, .int .i64 t] 23)).alloc (.cells #[.int .i64 k', .int .i64 a', .int .i64 b', .int .i64 t'] 23)) (w.heap.size + 1) 23 #[.int .i64 k', .int .i64 a', .int .i64 b', .int .i64 t'] := Bx.newAt (by simp)
  have hb0 := bl_alloc (bl_alloc (Below.refl w.heap.size w) (.cells #[.int .i64 k, .int .i64 a, .int .i64 b, .int .i64 t] 23)) (.cells #[.int .i64 k', .int .i64 a', .int .i64 b', .int .i64 t'] 23)
  have H1 := fun w => Lib.hid (Commute_c k a b t k' a' b' t' w)
  have H2 := fun w => Lib.hid (rCommute_c k a b t k' a' b' t' w)
  have H3 := fun w => Lib.hid (Commute_c k' a' b' t' k a b t w)
  rw [commR_symm, commE_symm] at H3
  generalize commR (k, a, b, t) (k', a', b', t') = r at *
  generalize commE (k, a, b, t) (k', a', b', t') = e0 at *
  obtain ⟨i1, i2, i3, i4, _, _, _, _⟩ := x0.four
  obtain ⟨j1, j2, j3, j4, _, _, _, _⟩ := x1.four
  go_enter Try.func3, Try.ntmps3
  go_wp2_with (fail)
  refine (H1 _).out.mono ?_
  rintro e w1 ⟨rfl, hb1⟩
  clear i1 i2 i3 i4 j1 j2 j3 j4
  obtain ⟨i1, i2, i3, i4, _, _, _, _⟩ := (x0.call hb1).four
  obtain ⟨j1, j2, j3, j4, _, _, _, _⟩ := (x1.call hb1).four
  go_wp2_with (fail)
  refine (H2 _).out.mono ?_
  rintro e w2 ⟨rfl, hb2⟩
  clear i1 i2 i3 i4 j1 j2 j3 j4
  have hb12 := bl_call hb1 hb2
  obtain ⟨i1, i2, i3, i4, _, _, _, _⟩ := (x0.call hb12).four
  obtain ⟨j1, j2, j3, j4, _, _, _, _⟩ := (x1.call hb12).four
  go_wp2_with (fail)
  refine (H3 _).out.mono ?_
  rintro e w3 ⟨rfl, hb3⟩
  clear i1 i2 i3 i4 j1 j2 j3 j4
  have hb13 := bl_call hb12 hb3
  have HK := Lib.hid (known_c w3)
  go_wp2_with (fail)
  refine HK.out.mono ?_
  rintro e w4 ⟨rfl, hb4⟩
  go_wp2_with (fail)
  go_ret
  exact ⟨rfl, bl_call hb0 (bl_call hb13 hb4)⟩
end Go.Proofs.Yteoajadcdjaalaa
