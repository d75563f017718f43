/- The chapter's examples: 'known' answers true; which lists are long, which fractions are fair, which one is less. -/
import Derived.Test.YtgbjglkiaoplmaaChq
import Derived.Test.YtgbjglkiaoplmaaChn
namespace Go.Proofs.Ytgbjglkiaoplmaa
open Go.RowKit

theorem Long_c (A : Option Addr) (m c : Nat) (w : World) : Calls Try.prog 18 #[.slice A m c] w fun e w' => e = .returned (.bool (decide (50 < m))) ∧ w = w' := by
  by_cases h : 50 < m
  · have h' : (50 : Int) < (m : Int) := by omega
    go_enter Try.func18, Try.ntmps18
    go_wp2_with (fail)
    go_ret
    exact ⟨ret_b (by simp [h]), rfl⟩
  · have h' : ¬ (50 : Int) < (m : Int) := by omega
    go_enter Try.func18, Try.ntmps18
    go_wp2_with (fail)
    go_ret
    exact ⟨ret_b (by simp <;> omega), rfl⟩
theorem fair_c (n d : Int) (w : World) (h1 : 0 < d) (h2 : d ≤ 134217728) (h3 : 0 ≤ n) (h4 : n ≤ 134217728) : Calls Try.prog 27 #[.agg #[.int .i64 n, .int .i64 d]] w fun e w' => e = .returned (.bool true) ∧ Below w.heap.size w w' := by
  have hb0 := bl_alloc (Below.refl w.heap.size w) (.cells #[.int .i64 n, .int .i64 d] 30)
  go_enter Try.func27, Try.ntmps27
  go_wp2
  go_ret
  exact ⟨rfl, hb0⟩
theorem lless_c (a c u v : Int) (w : World) (h1 : -1000000000000000000 ≤ a * v ∧ a * v ≤ 1000000000000000000) (h2 : -1000000000000000000 ≤ u * c ∧ u * c ≤ 1000000000000000000) :
    Calls Try.prog 28 #[.agg #[.int .i64 a, .int .i64 c], .agg #[.int .i64 u, .int .i64 v]] w fun e w' => e = .returned (.bool (decide (a * v < u * c))) ∧ Below w.heap.size w w' := by
  have q1 : wrap64 (a * v) = a * v := IntWalk.wrap64_in _ ⟨by omega, by omega⟩
  have q2 : wrap64 (u * c) = u * c := IntWalk.wrap64_in _ ⟨by omega, by omega⟩
  have hb0 := bl_alloc (bl_alloc (Below.refl w.heap.size w) (.cells #[.int .i64 a, .int .i64 c] 30)) (.cells #[.int .i64 u, .int .i64 v] 30)
  by_cases h : a * v < u * c
  · go_enter Try.func28, Try.ntmps28
    go_wp2
    go_ret
    exact ⟨ret_b (by simp [h]), hb0⟩
  · go_enter Try.func28, Try.ntmps28
    go_wp2
    go_ret
    exact ⟨ret_b (by simp [h]), hb0⟩
def exL : List It := [⟨2, 1, 10⟩, ⟨1, 1, 4⟩]
def exF : List Fx := [⟨1, 1, 10, 5⟩]
theorem ex_tot : totG exL = (9, 20) ∧ valE exL = 0 := by decide +kernel
theorem ex_chn : chnG exL = (157, 400) ∧ chnE exL = 0 := by decide +kernel
theorem ex_chp : chK exL exF 3 10 = 5 ∧ chB exL exF 3 10 = true ∧ byE exL exF 3 10 = 0 := by decide +kernel
theorem example_c (w : World) : Calls Try.prog 60 #[] w fun e w' => ∃ A, e = .returned (.slice A 2 2) ∧ Rd w' A (cellsI exL) ∧ Below w.heap.size w w' := by
  have hb0 := bl_alloc (Below.refl w.heap.size w) (.cells (cellsI exL).toArray 50)
  have hr : Rd (w.alloc (.cells (cellsI exL).toArray 50)) (some ⟨w.heap.size, 0, none⟩) (cellsI exL) := Bx.rd (Bx.new w _ _)
  go_enter Try.func60, Try.ntmps60
  go_wp2_with (fail)
  go_ret
  exact ⟨_, rfl, hr, hb0⟩
set_option maxRecDepth 100000 in
set_option maxHeartbeats 4000000 in
theorem known_c (w : World) : Calls Try.prog 19 #[] w fun e w' => e = .returned (.bool true) ∧ Below w.heap.size w w' := by
  have HT : Hid (∀ A w, Rd w A (cellsI exL) → Calls Try.prog 22 #[.slice A 2 2] w fun e w' => e = .returned (.tuple #[.agg #[.int .i64 9, .int .i64 20], .int .i64 0]) ∧ Below w.heap.size w w') := fun A w h => by
    have := Total_c A exL 2 w (by decide) h
    rw [ex_tot.1, ex_tot.2] at this
    exact this
  have HC : Hid (∀ A w, Rd w A (cellsI exL) → Calls Try.prog 29 #[.slice A 2 2] w fun e w' => e = .returned (.tuple #[.agg #[.int .i64 157, .int .i64 400], .int .i64 0]) ∧ Below w.heap.size w w') := fun A w h => by
    have := Chance_c A exL 2 w (by decide) h
    rw [ex_chn.1, ex_chn.2] at this
    exact this
  have HP : Hid (∀ A B w, Rd w A (cellsI exL) → Rd w B (cellsF exF) → Calls Try.prog 41 #[.slice A 2 2, .slice B 1 1, .agg #[.int .i64 3, .int .i64 10]] w fun e w' => e = .returned (.tuple #[.int .i64 5, .bool true, .int .i64 0]) ∧ Below w.heap.size w w') := fun A B w h h2 => by
    have := Cheapest_c A exL 2 B exF 1 3 10 w (by decide) (by decide) h h2
    rw [ex_chp.1, ex_chp.2.1, ex_chp.2.2] at this
    exact this
  go_enter Try.func19, Try.ntmps19
  go_wp2_with (fail)
  refine (example_c _).mono ?_
  rintro e w1 ⟨A1, rfl, hr1, hb1⟩
  go_wp2_with (fail)
  refine (HT.out _ _ hr1).mono ?_
  rintro e w2 ⟨rfl, hb2⟩
  have hb02 := bl_alloc (bl_call hb1 hb2) (.cells #[.int .i64 9, .int .i64 20] 30)
  have x2 : Bx (w2.alloc (.cells #[.int .i64 9, .int .i64 20] 30)) w2.heap.size 30 #[.int .i64 9, .int .i64 20] := Bx.new w2 _ _
  clear hr1 hb1 hb2
  go_wp2_with (fail)
  refine (example_c _).mono ?_
  rintro e w3 ⟨A3, rfl, hr3, hb3⟩
  have hb03 := bl_call hb02 hb3
  have x3 := x2.call hb3
  clear hb02 hb3 x2
  go_wp2_with (fail)
  refine (HC.out _ _ hr3).mono ?_
  rintro e w4 ⟨rfl, hb4⟩
  have hb04 := bl_alloc (bl_call hb03 hb4) (.cells #[.int .i64 157, .int .i64 400] 30)
  have x4 := (x3.call hb4).alloc (.cells #[.int .i64 157, .int .i64 400] 30)
  have y4 : Bx (w4.alloc (.cells #[.int .i64 157, .int .i64 400] 30)) w4.heap.size 30 #[.int .i64 157, .int .i64 400] := Bx.new w4 _ _
  clear hb03 hr3 hb4 x3
  go_wp2_with (fail)
  refine (example_c _).mono ?_
  rintro e w5 ⟨A5, rfl, hr5, hb5⟩
  have hb05 := bl_call hb04 hb5
  have x5 := x4.call hb5
  have y5 := y4.call hb5
  have hba := bl_alloc (Below.refl w5.heap.size w5) (.cells (cellsF exF).toArray 77)
  have hrf : Rd (w5.alloc (.cells (cellsF exF).toArray 77)) (some ⟨w5.heap.size, 0, none⟩) (cellsF exF) := Bx.rd (Bx.new w5 _ _)
  have hr6 := hr5.later hba
  have hb06 := bl_call hb05 hba
  have x6 := x5.call hba
  have y6 := y5.call hba
  clear hb04 hb05 hb5 x4 y4 x5 y5 hba hr5
  go_wp2_with (fail)
  refine (HP.out _ _ _ hr6 hrf).mono ?_
  rintro e w7 ⟨rfl, hb7⟩
  have hb07 := bl_call hb06 hb7
  obtain ⟨p0, p1, _, _⟩ := (x6.call hb7).two
  obtain ⟨r0, r1, _, _⟩ := (y6.call hb7).two
  clear hb06 hb7 x6 y6 hr6 hrf
  go_wp2_with (fail)
  go_ret
  exact ⟨rfl, hb07⟩
end Go.Proofs.Ytgbjglkiaoplmaa
