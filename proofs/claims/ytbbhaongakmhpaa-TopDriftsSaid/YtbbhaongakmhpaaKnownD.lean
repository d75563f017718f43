/- The chapter's examples: 'known' answers true. -/
import Derived.Test.YtbbhaongakmhpaaUnt
namespace Go.Proofs.Ytbbhaongakmhpaa
open Go.RowKit

theorem long_c (A : Option Addr) (m c : Nat) (w : World) : Calls Try.prog 17 #[.slice A m c] w fun e w' => e = .returned (.bool (decide (100 < m))) ∧ w = w' := by
  by_cases h : 100 < m
  · have h' : (100 : Int) < (m : Int) := by omega
    go_enter Try.func17, Try.ntmps17
    go_wp2_with (fail)
    go_ret
    exact ⟨ret_b (by simp [h]), rfl⟩
  · have h' : ¬ (100 : Int) < (m : Int) := by omega
    go_enter Try.func17, Try.ntmps17
    go_wp2_with (fail)
    go_ret
    exact ⟨ret_b (by simp <;> omega), rfl⟩
def ex1 : List T3 := [(0, 0, 1), (4, 9, 10)]
def ex2 : List T3 := [(3, 0, 2)]
theorem ex1_slow : sloG ex1 = (2, true) ∧ validE ex1 = 0 := by decide +kernel
theorem ex1_bnd : timE ex1 2 2 = 0 ∧ agreeB ex1 2 = true ∧ lowB ex1 2 2 = 5 ∧ highB ex1 2 2 = 5 := by decide +kernel
theorem ex2_unt : untE ex2 1 4 = 0 ∧ untG ex2 1 4 = (4, true) := by decide +kernel
theorem example_c (w : World) : Calls Try.prog 54 #[] w fun e w' => ∃ A, e = .returned (.slice A 2 2) ∧ Rd w' A (cellsT ex1) ∧ Below w.heap.size w w' := by
  have hr0 := rd_newT w 55 ex1
  have hb0 := bl_alloc (Below.refl w.heap.size w) (.cells (cellsT ex1).toArray 55)
  go_enter Try.func54, Try.ntmps54
  go_wp2_with (fail)
  go_ret
  exact ⟨_, rfl, hr0, hb0⟩
set_option maxRecDepth 100000 in
set_option maxHeartbeats 2000000 in
theorem known_c (w : World) : Calls Try.prog 18 #[] w fun e w' => e = .returned (.bool true) ∧ Below w.heap.size w w' := by
  have HS : Hid (∀ (B : Option Addr) (w : World), Rd w B (cellsT ex1) → Calls Try.prog 27 #[.slice B 2 2] w fun e w' => e = .returned (.tuple #[.int .i64 2, .bool true, .int .i64 0]) ∧ Below w.heap.size w w') := fun B w h => by
    have := Slowest_c B ex1 2 w (by decide) h
    rw [ex1_slow.1, ex1_slow.2] at this
    exact this
  have HB : Hid (∀ (B : Option Addr) (w : World), Rd w B (cellsT ex1) → Calls Try.prog 31 #[.slice B 2 2, .int .i64 2, .int .i64 2] w fun e w' => e = .returned (.tuple #[.int .i64 5, .int .i64 5, .bool true, .int .i64 0]) ∧ Below w.heap.size w w') := fun B w h => by
    have := Bounds_c B ex1 2 2 2 w (by decide) h
    obtain ⟨a, b, c, d⟩ := ex1_bnd
    rw [bndT, if_pos ⟨a, b⟩, c, d] at this
    exact this
  have HU : Hid (∀ (B : Option Addr) (w : World), Rd w B (cellsT ex2) → Calls Try.prog 41 #[.slice B 1 1, .int .i64 1, .int .i64 4] w fun e w' => e = .returned (.tuple #[.int .i64 4, .bool true, .int .i64 0]) ∧ Below w.heap.size w w') := fun B w h => by
    have := Until_c B ex2 1 1 4 w (by decide) h
    rw [ex2_unt.1, ex2_unt.2] at this
    exact this
  go_enter Try.func18, Try.ntmps18
  go_wp2_with (go_at_call 54; refine (example_c _).mono ?_; rintro e w1 ⟨A1, rfl, hra, hb1⟩)
  refine (HS.out _ _ hra).mono ?_
  rintro e w2 ⟨rfl, hb2⟩
  have hb02 := bl_call hb1 hb2
  go_wp2_with (go_at_call 54; refine (example_c _).mono ?_; rintro e w3 ⟨A3, rfl, hra3, hb3⟩)
  refine (HB.out _ _ hra3).mono ?_
  rintro e w4 ⟨rfl, hb4⟩
  have hb04 := bl_call hb02 (bl_call hb3 hb4)
  have hr5 := rd_newT w4 55 ex2
  have hb5 := bl_alloc (Below.refl w4.heap.size w4) (.cells (cellsT ex2).toArray 55)
  go_wp2_with (fail)
  refine (HU.out _ _ hr5).mono ?_
  rintro e w6 ⟨rfl, hb6⟩
  go_wp2_with (fail)
  go_ret
  exact ⟨rfl, bl_call hb04 (bl_call hb5 hb6)⟩
end Go.Proofs.Ytbbhaongakmhpaa
