/- The walk of the statement on areas and sums. -/
import Derived.Test.YtaaggekifibocaaRvals
import Derived.Test.YtaaggekifibocaaKnown
namespace Go.Proofs.Ytaaggekifibocaa
open Go.RowKit

theorem areaG_opp {p : List Int} {m : Int} (h : inE p m = 0) : inE p ((4 - m) % 4) = 0 ∧ areaG p ((4 - m) % 4) = wrap64 (-(areaGR p m)) := by
  obtain ⟨h1, h2, h3⟩ := inE_mode h
  refine ⟨h3, ?_⟩
  rw [← area_g, areaG, areaG, if_pos h, if_pos (show inE p ((4 - m) % 4) = 0 from h3)]
  exact area_opp m ⟨h1, h2⟩ p

set_option maxRecDepth 100000 in
set_option maxHeartbeats 400000 in
theorem pulseAreas_walk (A : Option Addr) (p : List Int) (cap : Nat) (m : Int) (w : World) (hr : Rd w A (ints p)) (_hm : (Lit.int .i64 m).wf = true) :
    Calls Try.prog 4 #[.slice A p.length cap, .int .i64 m] w fun e w' => e = .returned (.bool true) ∧ Below w.heap.size w w' := by
  by_cases h1 : 100 < p.length
  · have h1' : decide (100 < p.length) = true := by simpa using h1
    go_enter Try.func4, Try.ntmps4
    go_wp2_with (first | (go_at_call 17; refine (long_c _ _ _ _).mono ?_; rintro e w' ⟨rfl, rfl⟩) | (go_at_call 18; refine (known_c _).mono ?_; rintro e w' ⟨rfl, hb1⟩))
    go_ret
    exact ⟨rfl, hb1⟩
  · have h1' : decide (100 < p.length) = false := by simpa using h1
    have HA := Lib.hid (area_c A p cap m w (by omega) hr)
    have HB := fun w1 (hb : Below w.heap.size w w1) => Lib.hid (rArea_c A p cap m w1 (by omega) (hr.later hb))
    have HC := fun w1 (hb : Below w.heap.size w w1) => Lib.hid (sum_c A p cap m w1 (by omega) (hr.later hb))
    have HD := fun w1 (hb : Below w.heap.size w w1) => Lib.hid (rSum_c A p cap m w1 (by omega) (hr.later hb))
    have HO : Hid (inE p m = 0 → ∀ w1 : World, Below w.heap.size w w1 → Calls Try.prog 26 #[.slice A p.length cap, .int .i64 ((4 - m) % 4)] w1 fun e w' => e = .returned (.tuple #[.int .i64 (wrap64 (-(areaGR p m))), .int .i64 0]) ∧ Below w1.heap.size w1 w') :=
      fun h w1 hb => (area_c A p cap ((4 - m) % 4) w1 (by omega) (hr.later hb)).mono fun e w' ⟨he, hb'⟩ => ⟨by obtain ⟨e1, e2⟩ := areaG_opp h; rw [he, e1, e2], hb'⟩
    have HM : Hid (inE p m = 0 → 0 ≤ m ∧ m ≤ 3) := fun h => ⟨(inE_mode h).1, (inE_mode h).2.1⟩
    rw [area_g] at HA
    simp only [sum_g] at HC
    generalize areaGR p m = a at HA HB HO
    obtain ⟨⟨su, sv⟩, hs⟩ : ∃ s, s = sumGR p m := ⟨_, rfl⟩
    rw [← hs] at HC HD
    clear hs
    generalize inE p m = E at HA HB HC HD HO HM
    go_enter Try.func4, Try.ntmps4
    go_wp2_with (go_at_call 17; refine (long_c _ _ _ _).mono ?_; rintro e w' ⟨rfl, rfl⟩)
    refine HA.out.mono ?_
    rintro e w1 ⟨rfl, hb1⟩
    go_wp2_with (fail)
    refine (HB w1 hb1).out.mono ?_
    rintro e w2 ⟨rfl, hb2⟩
    have hw2 := bl_call hb1 hb2
    go_wp2_with (fail)
    refine (HC w2 hw2).out.mono ?_
    rintro e w3 ⟨u, v, rfl, huv, hb3⟩
    obtain ⟨rfl, rfl⟩ : u = su ∧ v = sv := by simpa using huv
    have hw3 := bl_call hw2 hb3
    go_wp2_with (fail)
    have x3 := Bx.new w3 30 #[.int .i64 u, .int .i64 v]
    have hw3' := bl_alloc hw3 (.cells #[.int .i64 u, .int .i64 v] 30)
    refine (HD _ hw3').out.mono ?_
    rintro e w4 ⟨u', v', rfl, huv', hb4⟩
    obtain ⟨rfl, rfl⟩ : u' = u ∧ v' = v := by simpa using huv'
    have hw4 := bl_call hw3' hb4
    have x4 := x3.call hb4
    obtain ⟨i1, i2, i3, i4⟩ := x4.two
    have hlt := x4.lt
    clear HA HB HC HD huv huv' x3
    generalize w3.heap.size = g3 at *
    by_cases hE : (E != 0) = true
    · go_wp2_with (fail)
      refine (known_c _).mono ?_
      rintro e w5 ⟨rfl, hb5⟩
      go_wp2_with (fail)
      go_ret
      exact ⟨rfl, (bl_alloc hw4 _).trans (hb5.mono (by have := hw4.size; simp; omega))⟩
    · have hE' : (E != 0) = false := by simpa using hE
      have hE0 : E = 0 := by simpa using hE'
      obtain ⟨hm0, hm3⟩ := HM.out hE0
      have e4 : (4 - m) % 4 = -m % 4 := by omega
      have HO1 := HO.out hE0
      rw [e4] at HO1
      clear e4
      have HO' := Lib.hid (HO1 _ (bl_alloc hw4 (.cells #[.int .i64 u', .int .i64 v'] 30)))
      clear HO HO1 HM hE hE0
      go_wp2_with (fail)
      refine HO'.out.mono ?_
      rintro e w5 ⟨rfl, hb5⟩
      go_wp2_with (fail)
      refine (known_c _).mono ?_
      rintro e w6 ⟨rfl, hb6⟩
      go_wp2_with (fail)
      go_ret
      exact ⟨rfl, bl_call (bl_call (bl_alloc hw4 _) hb5) hb6⟩
end Go.Proofs.Ytaaggekifibocaa
