/- The walk of 'BudgetRooms'. -/
import Derived.Test.YtgbjglkiaoplmaaRro
import Derived.Test.YtgbjglkiaoplmaaKno
namespace Go.Proofs.Ytgbjglkiaoplmaa
open Go.RowKit

theorem room_one {l : List It} {m e k r s : Int} (a1 : rmE l m e k ≠ 0 → r = 0) (a2 : rmE l m e k = 0 → ∃ n i : Nat, k = (i : Int) ∧ r = (n : Int) ∧ IsRoom l i m e n) (b1 : rmE l m e k ≠ 0 → s = 0) (b2 : rmE l m e k = 0 → ∃ n i : Nat, k = (i : Int) ∧ s = (n : Int) ∧ IsRoom l i m e n) : s = r := by
  by_cases h : rmE l m e k = 0
  · obtain ⟨n, i, h1, rfl, x⟩ := a2 h
    obtain ⟨n', i', h2, rfl, y⟩ := b2 h
    obtain rfl : i = i' := by omega
    rw [x.one y]
  · rw [a1 h, b1 h]
set_option maxRecDepth 100000 in
set_option maxHeartbeats 4000000 in
theorem budgetRooms_walk (A : Option Addr) (l : List It) (cap : Nat) (m e k : Int) (w : World) (_hcap : l.length ≤ cap) (hr : Rd w A (cellsI l)) :
    Calls Try.prog 12 #[.slice A l.length cap, .agg #[.int .i64 m, .int .i64 e, .int .i64 k]] w fun e w' => e = .returned (.bool true) ∧ Below w.heap.size w w' := by
  have hb0 := bl_alloc (Below.refl w.heap.size w) (.cells #[.int .i64 m, .int .i64 e, .int .i64 k] 65)
  have y0 : Bx (w.alloc (.cells #[.int .i64 m, .int .i64 e, .int .i64 k] 65)) w.heap.size 65 #[.int .i64 m, .int .i64 e, .int .i64 k] := Bx.new w _ _
  by_cases hL : 50 < l.length
  · have hd : decide (50 < l.length) = true := decide_eq_true hL
    go_enter Try.func12, Try.ntmps12
    go_wp2_with (fail)
    refine (Long_c _ _ _ _).mono ?_
    rintro e q1 ⟨rfl, rfl⟩
    rw [hd]
    go_wp2_with (fail)
    refine (known_c _).mono ?_
    rintro e w2 ⟨rfl, hb2⟩
    have hk2 := bl_call hb0 hb2
    clear hb0
    go_wp2_with (fail)
    go_ret
    exact ⟨rfl, hk2⟩
  · have hd : decide (50 < l.length) = false := decide_eq_false hL
    have HP := fun W hr => Lib.hid (Room_c A l cap m e k W (by omega) hr)
    have HQ := fun W hr => Lib.hid (rRoom_c A l cap m e k W (by omega) hr)
    have HO := Lib.hid (fun r s => @room_one l m e k r s)
    unfold OutRm at HP HQ
    generalize rmE l m e k = z at *
    obtain ⟨x0, x1, x2, _⟩ := y0.three
    go_enter Try.func12, Try.ntmps12
    go_wp2_with (fail)
    refine (Long_c _ _ _ _).mono ?_
    rintro e q1 ⟨rfl, rfl⟩
    rw [hd]
    go_wp2_with (fail)
    refine ((HP _ (hr.later hb0)).out).mono ?_
    rintro e w2 ⟨⟨r, rfl, a1, a2⟩, hb2⟩
    have hk2 := bl_call hb0 hb2
    have xx2 := y0.call hb2
    clear x0 x1 x2 hb0 y0
    obtain ⟨fx0, fx1, fx2, _, _, _⟩ := xx2.three
    go_wp2_with (fail)
    refine ((HQ _ (hr.later hk2)).out).mono ?_
    rintro e w3 ⟨⟨s, rfl, b1, b2⟩, hb3⟩
    have hk3 := bl_call hk2 hb3
    have xx3 := xx2.call hb3
    clear fx0 fx1 fx2 hk2 xx2
    obtain rfl : s = r := HO.out r s a1 a2 b1 b2
    clear a1 a2 b1 b2
    obtain ⟨fx0, fx1, fx2, _, _, _⟩ := xx3.three
    go_wp2_with (fail)
    refine (known_c _).mono ?_
    rintro e w4 ⟨rfl, hb4⟩
    have hk4 := bl_call hk3 hb4
    have xx4 := xx3.call hb4
    clear fx0 fx1 fx2 hk3 xx3
    obtain ⟨fx0, fx1, fx2, _, _, _⟩ := xx4.three
    go_wp2_with (fail)
    go_ret
    exact ⟨rfl, hk4⟩
end Go.Proofs.Ytgbjglkiaoplmaa
