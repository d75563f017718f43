/- DriftUntil, walked. -/
import Derived.Test.YtbbhaongakmhpaaKnownD
import Derived.Test.YtbbhaongakmhpaaRunt
namespace Go.Proofs.Ytbbhaongakmhpaa
open Go.RowKit

set_option maxRecDepth 100000 in
set_option maxHeartbeats 4000000 in
theorem driftUntil_walk (A : Option Addr) (l : List T3) (c : Nat) (r x : Int) (w : World) (_hcap : l.length ≤ c) (hr : Rd w A (cellsT l)) (_hi : (Lit.int .i64 r).wf = true) (_hj : (Lit.int .i64 x).wf = true) :
    Calls Try.prog 11 #[.slice A l.length c, .int .i64 r, .int .i64 x] w fun e w' => e = .returned (.bool true) ∧ Below w.heap.size w w' := by
  have HL := fun w => Lib.hid (long_c A l.length c w)
  have HK := fun w => Lib.hid (known_c w)
  by_cases hlong : 100 < l.length
  · rw [decide_eq_true hlong] at HL
    go_enter Try.func11, Try.ntmps11
    go_wp2_with (fail)
    refine (HL _).out.mono ?_
    rintro e w1 ⟨rfl, rfl⟩
    go_wp2_with (fail)
    refine (HK _).out.mono ?_
    rintro e w2 ⟨rfl, hb2⟩
    go_wp2_with (fail)
    go_ret
    exact ⟨rfl, hb2⟩
  · rw [decide_eq_false hlong] at HL
    have hlen : l.length ≤ 1000 := by omega
    clear hlong
    have H1 := fun w h => Lib.hid (Until_c A l c r x w hlen h)
    have H2 := fun w h => Lib.hid (rUntil_c A l c r x w hlen h)
    have H3 := fun w h => Lib.hid (Width_c A l c r (untG l r x).1 w hlen h)
    rcases hb : (untG l r x).2 with _ | _
    · clear H3
      rw [hb] at H1 H2
      clear hb
      generalize (untG l r x).1 = a at *
      generalize untE l r x = E at *
      go_enter Try.func11, Try.ntmps11
      go_wp2_with (fail)
      refine (HL _).out.mono ?_
      rintro e w1 ⟨rfl, rfl⟩
      have hb0 := Below.refl w.heap.size w
      go_wp2_with (fail)
      refine (H1 _ (hr.later hb0)).out.mono ?_
      rintro e w1_ ⟨rfl, hbx1⟩
      have hb01 := bl_call hb0 hbx1
      go_wp2_with (fail)
      refine (H2 _ (hr.later hb01)).out.mono ?_
      rintro e w2_ ⟨rfl, hbx2⟩
      have hb02 := bl_call hb01 hbx2
      go_wp2_with (fail)
      refine (HK _).out.mono ?_
      rintro e wk ⟨rfl, hbk⟩
      go_wp2_with (fail)
      go_ret
      exact ⟨rfl, bl_call hb02 hbk⟩
    · have hE : untE l r x = 0 := by
        rcases Decidable.em (untE l r x = 0) with h | h
        · exact h
        · rw [untG, if_neg h] at hb; cases hb
      have hG : untG l r x = untL l r x := by rw [untG, if_pos hE]
      obtain ⟨⟨ho, h0, h9⟩, hx0, hx1⟩ := untE_ok.1 hE
      have hb2 := hb
      rw [hG] at hb2
      obtain ⟨ha, q1, q2, q3⟩ := untL_in ho hb2
      rw [← hG] at q1 q2 q3
      have hT : timE l r (untG l r x).1 = 0 := timE_ok.2 ⟨⟨ho, h0, h9⟩, q1, q2⟩
      have hW : widG l r (untG l r x).1 = (widL l r (untG l r x).1, true) := if_pos ⟨hT, ha⟩
      rw [hb, hE] at H1 H2
      rw [hW, hT] at H3
      clear hb hb2 hE hG ho h0 h9 hx0 hx1 ha q1 q2 hT hW
      generalize (untG l r x).1 = a at *
      generalize widL l r a = wl at *
      go_enter Try.func11, Try.ntmps11
      go_wp2_with (fail)
      refine (HL _).out.mono ?_
      rintro e w1 ⟨rfl, rfl⟩
      have hb0 := Below.refl w.heap.size w
      go_wp2_with (fail)
      refine (H1 _ (hr.later hb0)).out.mono ?_
      rintro e w1_ ⟨rfl, hbx1⟩
      have hb01 := bl_call hb0 hbx1
      go_wp2_with (fail)
      refine (H2 _ (hr.later hb01)).out.mono ?_
      rintro e w2_ ⟨rfl, hbx2⟩
      have hb02 := bl_call hb01 hbx2
      go_wp2_with (fail)
      refine (H3 _ (hr.later hb02)).out.mono ?_
      rintro e w3_ ⟨rfl, hbx3⟩
      have hb03 := bl_call hb02 hbx3
      go_wp2_with (fail)
      refine (HK _).out.mono ?_
      rintro e wk ⟨rfl, hbk⟩
      go_wp2_with (fail)
      go_ret
      exact ⟨rfl, bl_call hb03 hbk⟩
end Go.Proofs.Ytbbhaongakmhpaa
