/- Products, sums, rests and comparisons of fractions: package budget's. -/
import Derived.Test.YtgbjglkiaoplmaaFrc
namespace Go.Proofs.Ytgbjglkiaoplmaa
open Go.RowKit

theorem lowest_c (n d : Int) (w : World) (hn : 0 ≤ n ∧ n ≤ 1000000000000000) (hd : 0 < d ∧ d ≤ 1000000000000000) :
    Calls Try.prog 100 #[.agg #[.int .i64 n, .int .i64 d]] w fun e w' => e = .returned (.agg #[.int .i64 (low n d).1, .int .i64 (low n d).2]) ∧ Below w.heap.size w w' := by
  obtain ⟨a, rfl⟩ : ∃ a : Nat, n = (a : Int) := ⟨n.toNat, by omega⟩
  obtain ⟨c, rfl⟩ : ∃ c : Nat, d = (c : Int) := ⟨d.toNat, by omega⟩
  exact lowestN_c a c w (by omega) (by omega) (by omega)
set_option maxHeartbeats 2000000 in
theorem times_c (a c u v : Int) (w : World) (h1 : 0 ≤ a * u ∧ a * u ≤ 1000000000000000) (h2 : 0 < c * v ∧ c * v ≤ 1000000000000000) :
    Calls Try.prog 68 #[.agg #[.int .i64 a, .int .i64 c], .agg #[.int .i64 u, .int .i64 v]] w fun e w' => e = .returned (.agg #[.int .i64 (low (a * u) (c * v)).1, .int .i64 (low (a * u) (c * v)).2]) ∧ Below w.heap.size w w' := by
  have q1 : wrap64 (a * u) = a * u := IntWalk.wrap64_in _ ⟨by omega, by omega⟩
  have q2 : wrap64 (c * v) = c * v := IntWalk.wrap64_in _ ⟨by omega, by omega⟩
  have HL := fun w => Lib.hid (lowest_c (a * u) (c * v) w h1 h2)
  have hx := (Bx.newAt (w := (w.alloc (.cells #[.int .i64 a, .int .i64 c] 78)).alloc (.cells #[.int .i64 u, .int .i64 v] 78)) (T := 78) (cs := #[.int .i64 0, .int .i64 0]) (g := w.heap.size + 1 + 1) (by simp))
  have hb0 := bl_alloc (bl_alloc (bl_alloc (Below.refl w.heap.size w) (.cells #[.int .i64 a, .int .i64 c] 78)) (.cells #[.int .i64 u, .int .i64 v] 78)) (.cells #[.int .i64 0, .int .i64 0] 78)
  generalize hp : low (a * u) (c * v) = p at *
  clear hp h1 h2
  go_enter Try.func68, Try.ntmps68
  go_wp2_with (fail)
  refine (HL _).out.mono ?_
  rintro e w1 ⟨rfl, hb1⟩
  have hx1 := hx.call hb1
  obtain ⟨z0, z1, z2, z3⟩ := hx1.two
  have hbF := fun (u v : Value) => bl_set (bl_set (bl_call hb0 hb1) (g := w.heap.size + 1 + 1) (i := 0) (by omega) u) (g := w.heap.size + 1 + 1) (i := 1) (by omega) v
  go_wp2_with (fail)
  refine bodyPost_ret (results_cell_row rfl _ _ (w.heap.size + 1 + 1) 78 _ (0, 0) _ rfl (hx1.set2 _ _) Try.underlying78 rfl (by kernel_rfl)) rfl ?_
  exact ⟨rfl, hbF _ _⟩
set_option maxHeartbeats 2000000 in
theorem rest_c (a c : Int) (w : World) (h1 : 0 ≤ a ∧ a ≤ c) (h2 : 0 < c ∧ c ≤ 1000000000000) :
    Calls Try.prog 69 #[.agg #[.int .i64 a, .int .i64 c]] w fun e w' => e = .returned (.agg #[.int .i64 (low (c - a) c).1, .int .i64 (low (c - a) c).2]) ∧ Below w.heap.size w w' := by
  have q1 : wrap64 (c - a) = c - a := IntWalk.wrap64_in _ ⟨by omega, by omega⟩
  have HL := fun w => Lib.hid (lowest_c (c - a) c w (by omega) (by omega))
  have hx := (Bx.newAt (w := w.alloc (.cells #[.int .i64 a, .int .i64 c] 78)) (T := 78) (cs := #[.int .i64 0, .int .i64 0]) (g := w.heap.size + 1) (by simp))
  have hb0 := bl_alloc (bl_alloc (Below.refl w.heap.size w) (.cells #[.int .i64 a, .int .i64 c] 78)) (.cells #[.int .i64 0, .int .i64 0] 78)
  generalize hp : low (c - a) c = p at *
  clear hp h1 h2
  go_enter Try.func69, Try.ntmps69
  go_wp2_with (fail)
  refine (HL _).out.mono ?_
  rintro e w1 ⟨rfl, hb1⟩
  have hx1 := hx.call hb1
  obtain ⟨z0, z1, z2, z3⟩ := hx1.two
  have hbF := fun (u v : Value) => bl_set (bl_set (bl_call hb0 hb1) (g := w.heap.size + 1) (i := 0) (by omega) u) (g := w.heap.size + 1) (i := 1) (by omega) v
  go_wp2_with (fail)
  refine bodyPost_ret (results_cell_row rfl _ _ (w.heap.size + 1) 78 _ (0, 0) _ rfl (hx1.set2 _ _) Try.underlying78 rfl (by kernel_rfl)) rfl ?_
  exact ⟨rfl, hbF _ _⟩
set_option maxHeartbeats 2000000 in
theorem plus_c (a c u v : Int) (w : World) (h1 : 0 ≤ a * v ∧ a * v ≤ 400000000000000) (h2 : 0 ≤ u * c ∧ u * c ≤ 400000000000000) (h3 : 0 < c * v ∧ c * v ≤ 1000000000000000) :
    Calls Try.prog 99 #[.agg #[.int .i64 a, .int .i64 c], .agg #[.int .i64 u, .int .i64 v]] w fun e w' => e = .returned (.agg #[.int .i64 (low (a * v + u * c) (c * v)).1, .int .i64 (low (a * v + u * c) (c * v)).2]) ∧ Below w.heap.size w w' := by
  have q1 : wrap64 (a * v) = a * v := IntWalk.wrap64_in _ ⟨by omega, by omega⟩
  have q2 : wrap64 (u * c) = u * c := IntWalk.wrap64_in _ ⟨by omega, by omega⟩
  have q3 : wrap64 (c * v) = c * v := IntWalk.wrap64_in _ ⟨by omega, by omega⟩
  have q4 : wrap64 (a * v + u * c) = a * v + u * c := IntWalk.wrap64_in _ ⟨by omega, by omega⟩
  have HL := fun w => Lib.hid (lowest_c (a * v + u * c) (c * v) w (by omega) h3)
  have hx := (Bx.newAt (w := (w.alloc (.cells #[.int .i64 a, .int .i64 c] 78)).alloc (.cells #[.int .i64 u, .int .i64 v] 78)) (T := 78) (cs := #[.int .i64 0, .int .i64 0]) (g := w.heap.size + 1 + 1) (by simp))
  have hb0 := bl_alloc (bl_alloc (bl_alloc (Below.refl w.heap.size w) (.cells #[.int .i64 a, .int .i64 c] 78)) (.cells #[.int .i64 u, .int .i64 v] 78)) (.cells #[.int .i64 0, .int .i64 0] 78)
  generalize hp : low (a * v + u * c) (c * v) = p at *
  clear hp h1 h2 h3
  go_enter Try.func99, Try.ntmps99
  go_wp2_with (fail)
  refine (HL _).out.mono ?_
  rintro e w1 ⟨rfl, hb1⟩
  have hx1 := hx.call hb1
  obtain ⟨z0, z1, z2, z3⟩ := hx1.two
  have hbF := fun (u v : Value) => bl_set (bl_set (bl_call hb0 hb1) (g := w.heap.size + 1 + 1) (i := 0) (by omega) u) (g := w.heap.size + 1 + 1) (i := 1) (by omega) v
  go_wp2_with (fail)
  refine bodyPost_ret (results_cell_row rfl _ _ (w.heap.size + 1 + 1) 78 _ (0, 0) _ rfl (hx1.set2 _ _) Try.underlying78 rfl (by kernel_rfl)) rfl ?_
  exact ⟨rfl, hbF _ _⟩
def cmpI (x y : Int) : Int := if x < y then -1 else if y < x then 1 else 0
theorem isNaN_c (x : Int) (w : World) : Calls Try.prog 114 #[.int .i64 x] w fun e w' => e = .returned (.bool false) ∧ w = w' := by
  go_enter Try.func114, Try.ntmps114
  go_wp2_with (fail)
  go_ret
  exact ⟨ret_b (by simp), rfl⟩
theorem cmp_c (x y : Int) (w : World) : Calls Try.prog 109 #[.int .i64 x, .int .i64 y] w fun e w' => e = .returned (.int .i64 (cmpI x y)) ∧ w = w' := by
  by_cases h1 : x < y
  · go_enter Try.func109, Try.ntmps109
    go_wp2_with (go_at_call 114; refine (isNaN_c _ _).mono ?_; rintro e w1 ⟨rfl, rfl⟩)
    go_ret
    exact ⟨ret_i (by unfold cmpI; rw [if_pos (by omega)]), rfl⟩
  · by_cases h2 : y < x
    · go_enter Try.func109, Try.ntmps109
      go_wp2_with (go_at_call 114; refine (isNaN_c _ _).mono ?_; rintro e w1 ⟨rfl, rfl⟩)
      go_ret
      exact ⟨ret_i (by unfold cmpI; rw [if_neg (by omega), if_pos (by omega)]), rfl⟩
    · go_enter Try.func109, Try.ntmps109
      go_wp2_with (go_at_call 114; refine (isNaN_c _ _).mono ?_; rintro e w1 ⟨rfl, rfl⟩)
      go_ret
      exact ⟨ret_i (by unfold cmpI; rw [if_neg (by omega), if_neg (by omega)]), rfl⟩
set_option maxHeartbeats 2000000 in
theorem compare_c (a c u v : Int) (w : World) (h1 : -1000000000000000 ≤ a * v ∧ a * v ≤ 1000000000000000) (h2 : -1000000000000000 ≤ u * c ∧ u * c ≤ 1000000000000000) :
    Calls Try.prog 88 #[.agg #[.int .i64 a, .int .i64 c], .agg #[.int .i64 u, .int .i64 v]] w fun e w' => e = .returned (.int .i64 (cmpI (a * v) (u * c))) ∧ Below w.heap.size w w' := by
  have q1 : wrap64 (a * v) = a * v := IntWalk.wrap64_in _ ⟨by omega, by omega⟩
  have q2 : wrap64 (u * c) = u * c := IntWalk.wrap64_in _ ⟨by omega, by omega⟩
  have HL := fun w => Lib.hid (cmp_c (a * v) (u * c) w)
  have hb0 := bl_alloc (bl_alloc (Below.refl w.heap.size w) (.cells #[.int .i64 a, .int .i64 c] 78)) (.cells #[.int .i64 u, .int .i64 v] 78)
  generalize cmpI (a * v) (u * c) = p at *
  go_enter Try.func88, Try.ntmps88
  go_wp2_with (fail)
  refine (HL _).out.mono ?_
  rintro e w1 ⟨rfl, rfl⟩
  go_wp2_with (fail)
  go_ret
  exact ⟨rfl, hb0⟩
set_option maxHeartbeats 2000000 in
theorem less_c (a c u v : Int) (w : World) (h1 : -1000000000000000 ≤ a * v ∧ a * v ≤ 1000000000000000) (h2 : -1000000000000000 ≤ u * c ∧ u * c ≤ 1000000000000000) :
    Calls Try.prog 76 #[.agg #[.int .i64 a, .int .i64 c], .agg #[.int .i64 u, .int .i64 v]] w fun e w' => e = .returned (.bool (decide (a * v < u * c))) ∧ Below w.heap.size w w' := by
  have HL := fun w => Lib.hid (compare_c a c u v w h1 h2)
  have hb0 := bl_alloc (bl_alloc (Below.refl w.heap.size w) (.cells #[.int .i64 a, .int .i64 c] 78)) (.cells #[.int .i64 u, .int .i64 v] 78)
  have hd : decide (a * v < u * c) = decide (cmpI (a * v) (u * c) < 0) := by
    unfold cmpI
    rw [Bool.eq_iff_iff, decide_eq_true_eq, decide_eq_true_eq]
    split
    · rename_i h; exact ⟨fun _ => by decide, fun _ => h⟩
    · rename_i h
      split
      · exact ⟨fun h' => absurd h' h, fun h' => by omega⟩
      · exact ⟨fun h' => absurd h' h, fun h' => by omega⟩
  rw [hd]
  generalize cmpI (a * v) (u * c) = p at *
  clear hd h1 h2
  go_enter Try.func76, Try.ntmps76
  go_wp2_with (fail)
  refine (HL _).out.mono ?_
  rintro e w1 ⟨rfl, hb1⟩
  go_wp2_with (fail)
  go_ret
  exact ⟨rfl, bl_call hb0 hb1⟩
end Go.Proofs.Ytgbjglkiaoplmaa
