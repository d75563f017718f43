/- Contracts of the small functions of package pulse and of its specification: numbers and points. -/
import Derived.Test.YtpjdojjdhbmbjaaProg
import Derived.Test.YtpjdojjdhbmbjaaMod
import Derived.WalkLawsBesides
import Derived.BigQuiet
import Derived.Deep.QuietTactic
import Derived.Lib.Hide
namespace Go.Proofs.Ytpjdojjdhbmbjaa
open Go.RowKit

def inB (n lo hi : Int) : Bool := decide (lo ≤ n) && decide (n ≤ hi)

/-- A point, as a value. -/
def encP (a : Int × Int) : Value := .agg #[.int .i64 a.1, .int .i64 a.2]
def plusW (a b : Int × Int) : Int × Int := (wrap64 (a.1 + b.1), wrap64 (a.2 + b.2))
def crossW (a b : Int × Int) : Int := wrap64 (wrap64 (a.1 * b.2) - wrap64 (a.2 * b.1))
def quad (q : Int) : Int := bits BinOp.and IntKind.i64 q 3
def turnW (q : Int) (a : Int × Int) : Int × Int :=
  if quad q == 1 then (wrap64 (-a.2), a.1) else if quad q == 2 then (wrap64 (-a.1), wrap64 (-a.2)) else if quad q == 3 then (a.2, wrap64 (-a.1)) else a

theorem within_c (n lo hi : Int) (w : World) : Calls Try.prog 36 #[.int .i64 n, .int .i64 lo, .int .i64 hi] w fun e w' => e = .returned (.bool (inB n lo hi)) ∧ w = w' := by
  by_cases h1 : lo ≤ n
  · by_cases h2 : n ≤ hi
    · go_enter Try.func36, Try.ntmps36
      go_wp2
      go_ret
      exact ⟨by simp [inB]; omega, rfl⟩
    · go_enter Try.func36, Try.ntmps36
      go_wp2
      go_ret
      exact ⟨by simp [inB]; omega, rfl⟩
  · go_enter Try.func36, Try.ntmps36
    go_wp2
    go_ret
    exact ⟨by simp [inB]; omega, rfl⟩

theorem isForce_c (n : Int) (w : World) : Calls Try.prog 61 #[.int .i64 n] w fun e w' => e = .returned (.bool (inB n (-99) 99)) ∧ w = w' := by
  by_cases h1 : -99 ≤ n
  · by_cases h2 : n ≤ 99
    · go_enter Try.func61, Try.ntmps61
      go_wp2
      go_ret
      exact ⟨by simp [inB]; omega, rfl⟩
    · go_enter Try.func61, Try.ntmps61
      go_wp2
      go_ret
      exact ⟨by simp [inB]; omega, rfl⟩
  · go_enter Try.func61, Try.ntmps61
    go_wp2
    go_ret
    exact ⟨by simp [inB]; omega, rfl⟩

theorem isMode_c (n : Int) (w : World) : Calls Try.prog 86 #[.int .i64 n] w fun e w' => e = .returned (.bool (inB n 0 3)) ∧ w = w' := by
  by_cases h1 : 0 ≤ n
  · by_cases h2 : n < 4
    · go_enter Try.func86, Try.ntmps86
      go_wp2
      go_ret
      exact ⟨by simp [inB]; omega, rfl⟩
    · go_enter Try.func86, Try.ntmps86
      go_wp2
      go_ret
      exact ⟨by simp [inB]; omega, rfl⟩
  · go_enter Try.func86, Try.ntmps86
    go_wp2
    go_ret
    exact ⟨by simp [inB]; omega, rfl⟩

theorem plus_c (a b c d : Int) (w : World) : Calls Try.prog 88 #[.agg #[.int .i64 a, .int .i64 b], .agg #[.int .i64 c, .int .i64 d]] w fun e w' => ∃ u v, e = .returned (.agg #[.int .i64 u, .int .i64 v]) ∧ (u, v) = plusW (a, b) (c, d) ∧ Below w.heap.size w w' := by
  go_enter Try.func88, Try.ntmps88
  go_wp2
  exact bodyPost_ret (v := .agg #[.int .i64 (wrap64 (a + c)), .int .i64 (wrap64 (b + d))]) (by simp [results, Try.results88, go_sem]) rfl ⟨_, _, rfl, rfl, (by repeat (first | exact Below.refl _ _ | refine bl_alloc ?_ _))⟩

theorem rplus_c (a b c d : Int) (w : World) : Calls Try.prog 90 #[.agg #[.int .i64 a, .int .i64 b], .agg #[.int .i64 c, .int .i64 d]] w fun e w' => ∃ u v, e = .returned (.agg #[.int .i64 u, .int .i64 v]) ∧ (u, v) = plusW (a, b) (c, d) ∧ Below w.heap.size w w' := by
  go_enter Try.func90, Try.ntmps90
  go_wp2
  exact bodyPost_ret (v := .agg #[.int .i64 (wrap64 (a + c)), .int .i64 (wrap64 (b + d))]) (by simp [results, Try.results90, go_sem]) rfl ⟨_, _, rfl, rfl, (by repeat (first | exact Below.refl _ _ | refine bl_alloc ?_ _))⟩

theorem cross_c (a b c d : Int) (w : World) : Calls Try.prog 91 #[.agg #[.int .i64 a, .int .i64 b], .agg #[.int .i64 c, .int .i64 d]] w fun e w' => e = .returned (.int .i64 (crossW (a, b) (c, d))) ∧ Below w.heap.size w w' := by
  go_enter Try.func91, Try.ntmps91
  go_wp2
  go_ret
  exact ⟨rfl, (by repeat (first | exact Below.refl _ _ | refine bl_alloc ?_ _))⟩

theorem rcross_c (a b c d : Int) (w : World) : Calls Try.prog 92 #[.agg #[.int .i64 a, .int .i64 b], .agg #[.int .i64 c, .int .i64 d]] w fun e w' => e = .returned (.int .i64 (crossW (a, b) (c, d))) ∧ Below w.heap.size w w' := by
  go_enter Try.func92, Try.ntmps92
  go_wp2
  go_ret
  exact ⟨rfl, (by repeat (first | exact Below.refl _ _ | refine bl_alloc ?_ _))⟩

theorem rot_c (q x y : Int) (w : World) : Calls Try.prog 69 #[.int .i64 q, .agg #[.int .i64 x, .int .i64 y]] w fun e w' => ∃ u v, e = .returned (.agg #[.int .i64 u, .int .i64 v]) ∧ (u, v) = turnW q (x, y) ∧ Below w.heap.size w w' := by
  by_cases h1 : (bits BinOp.and IntKind.i64 q 3 == 1) = true
  · go_enter Try.func69, Try.ntmps69
    go_wp2
    exact bodyPost_ret (v := .agg #[.int .i64 (wrap64 (-y)), .int .i64 x]) (by simp [results, Try.results69, go_sem]) rfl ⟨_, _, rfl, by simp [turnW, quad, h1], (by repeat (first | exact Below.refl _ _ | refine bl_alloc ?_ _))⟩
  · have h1' : (bits BinOp.and IntKind.i64 q 3 == 1) = false := by simpa using h1
    clear h1
    by_cases h2 : (bits BinOp.and IntKind.i64 q 3 == 2) = true
    · go_enter Try.func69, Try.ntmps69
      go_wp2
      exact bodyPost_ret (v := .agg #[.int .i64 (wrap64 (-x)), .int .i64 (wrap64 (-y))]) (by simp [results, Try.results69, go_sem]) rfl ⟨_, _, rfl, by simp [turnW, quad, h1', h2], (by repeat (first | exact Below.refl _ _ | refine bl_alloc ?_ _))⟩
    · have h2' : (bits BinOp.and IntKind.i64 q 3 == 2) = false := by simpa using h2
      clear h2
      by_cases h3 : (bits BinOp.and IntKind.i64 q 3 == 3) = true
      · go_enter Try.func69, Try.ntmps69
        go_wp2
        exact bodyPost_ret (v := .agg #[.int .i64 y, .int .i64 (wrap64 (-x))]) (by simp [results, Try.results69, go_sem]) rfl ⟨_, _, rfl, by simp [turnW, quad, h1', h2', h3], (by repeat (first | exact Below.refl _ _ | refine bl_alloc ?_ _))⟩
      · have h3' : (bits BinOp.and IntKind.i64 q 3 == 3) = false := by simpa using h3
        clear h3
        go_enter Try.func69, Try.ntmps69
        go_wp2
        exact bodyPost_ret (v := .agg #[.int .i64 x, .int .i64 y]) (by simp [results, Try.results69, go_sem]) rfl ⟨_, _, rfl, by simp [turnW, quad, h1', h2', h3'], (by repeat (first | exact Below.refl _ _ | refine bl_alloc ?_ _))⟩

theorem rturn_c (q x y : Int) (w : World) : Calls Try.prog 38 #[.agg #[.int .i64 x, .int .i64 y], .int .i64 q] w fun e w' => ∃ u v, e = .returned (.agg #[.int .i64 u, .int .i64 v]) ∧ (u, v) = turnW q (x, y) ∧ Below w.heap.size w w' := by
  by_cases h1 : (bits BinOp.and IntKind.i64 q 3 == 1) = true
  · go_enter Try.func38, Try.ntmps38
    go_wp2
    exact bodyPost_ret (v := .agg #[.int .i64 (wrap64 (-y)), .int .i64 x]) (by simp [results, Try.results38, go_sem]) rfl ⟨_, _, rfl, by simp [turnW, quad, h1], (by repeat (first | exact Below.refl _ _ | refine bl_alloc ?_ _))⟩
  · have h1' : (bits BinOp.and IntKind.i64 q 3 == 1) = false := by simpa using h1
    clear h1
    by_cases h2 : (bits BinOp.and IntKind.i64 q 3 == 2) = true
    · go_enter Try.func38, Try.ntmps38
      go_wp2
      exact bodyPost_ret (v := .agg #[.int .i64 (wrap64 (-x)), .int .i64 (wrap64 (-y))]) (by simp [results, Try.results38, go_sem]) rfl ⟨_, _, rfl, by simp [turnW, quad, h1', h2], (by repeat (first | exact Below.refl _ _ | refine bl_alloc ?_ _))⟩
    · have h2' : (bits BinOp.and IntKind.i64 q 3 == 2) = false := by simpa using h2
      clear h2
      by_cases h3 : (bits BinOp.and IntKind.i64 q 3 == 3) = true
      · go_enter Try.func38, Try.ntmps38
        go_wp2
        exact bodyPost_ret (v := .agg #[.int .i64 y, .int .i64 (wrap64 (-x))]) (by simp [results, Try.results38, go_sem]) rfl ⟨_, _, rfl, by simp [turnW, quad, h1', h2', h3], (by repeat (first | exact Below.refl _ _ | refine bl_alloc ?_ _))⟩
      · have h3' : (bits BinOp.and IntKind.i64 q 3 == 3) = false := by simpa using h3
        clear h3
        go_enter Try.func38, Try.ntmps38
        go_wp2
        exact bodyPost_ret (v := .agg #[.int .i64 x, .int .i64 y]) (by simp [results, Try.results38, go_sem]) rfl ⟨_, _, rfl, by simp [turnW, quad, h1', h2', h3'], (by repeat (first | exact Below.refl _ _ | refine bl_alloc ?_ _))⟩

theorem turn_c (q x y : Int) (w : World) : Calls Try.prog 37 #[.agg #[.int .i64 x, .int .i64 y], .int .i64 q] w fun e w' => ∃ u v, e = .returned (.agg #[.int .i64 u, .int .i64 v]) ∧ (u, v) = turnW q (x, y) ∧ Below w.heap.size w w' := by
  go_enter Try.func37, Try.ntmps37
  go_wp2_with (go_at_call 69; refine (rot_c _ _ _ _).mono ?_; rintro e w1 ⟨u, v, rfl, huv, hb1⟩; obtain ⟨hc1, hf1⟩ := bl_reads hb1; have HU := Lib.hid huv; clear huv)
  have hu := HU.out
  exact bodyPost_ret (v := .agg #[.int .i64 u, .int .i64 v]) (by simp [results, Try.results37, go_sem, hc1]) rfl ⟨_, _, rfl, hu, bl_set (bl_set (bl_call (by repeat (first | exact Below.refl _ _ | refine bl_alloc ?_ _)) hb1) (by simp) _) (by simp) _⟩
end Go.Proofs.Ytpjdojjdhbmbjaa
