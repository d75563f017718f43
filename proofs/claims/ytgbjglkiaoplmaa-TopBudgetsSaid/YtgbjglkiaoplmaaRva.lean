/- Which budgets and limits are right: the specification's; limits of package budget. -/
import Derived.Test.YtgbjglkiaoplmaaVal
namespace Go.Proofs.Ytgbjglkiaoplmaa
open Go.RowKit

set_option maxHeartbeats 4000000 in
theorem rValidate_c (A : Option Addr) (l : List It) (cap : Nat) (w : World) (hlen : l.length ≤ 1000) (hr : Rd w A (cellsI l)) :
    Calls Try.prog 25 #[.slice A l.length cap] w fun e w' => e = .returned (.int .i64 (valE l)) ∧ Below w.heap.size w w' := by
  by_cases hl : 6 < l.length
  · have hl' : (6 : Int) < (l.length : Int) := by omega
    have hE : valE l = 3 := by unfold valE; rw [if_pos hl]
    rw [hE]
    go_enter Try.func25, Try.ntmps25
    go_wp2_with (fail)
    go_ret
    exact ⟨rfl, Below.refl _ _⟩
  · have hl' : ¬ (6 : Int) < (l.length : Int) := by omega
    have HB := Lib.hid (fun k => @valE_bad l k hl)
    have HG := Lib.hid (@valE_good l hl)
    have hl6 : l.length ≤ 6 := by omega
    have HQ : Hid (∀ x, itB x = (inB x.u 1 8 && rateB x.n x.d)) := fun x => by show _ = _; rw [itB_eq]; unfold inB; rw [Bool.and_assoc]
    have HR := fun n d w => Lib.hid (risRate_c n d w)
    have HW := fun n w => Lib.hid (within_c n 1 8 w)
    generalize valE l = res at *
    go_enter Try.func25, Try.ntmps25
    go_wp2_with (fail)
    go_loopg [3] l.length (fun gk iv wr => ∃ k : Nat, Hid (k + gk = l.length) ∧ iv = .int .i64 (k : Int) ∧ Hid (∀ i, i < k → itB (l.getD i it0) = true) ∧ Below w.heap.size w wr)
    case atStart => exact ⟨0, by simp [Hid], rfl, fun i hi => absurd hi (by omega), Below.refl _ _⟩
    case round =>
      obtain ⟨k, HK, rfl, hall, hb⟩ := hrel
      rcases gk with _ | gi
      · obtain rfl : k = l.length := HK.out
        go_wp2_with (fail)
        go_ret
        exact ⟨ret_i (HG.out hall.out), hb⟩
      · have hkN : k < l.length := by have := HK.out; omega
        have hkN' : (k : Int) < (l.length : Int) := by omega
        obtain ⟨b, o, rfl, _, c0, c1, c2⟩ := (hr.later hb).itm hkN
        have HBk := Lib.hid (HB.out k hkN)
        have HQk := Lib.hid (HQ.out (l.getD k it0))
        have HN : Hid (itB (l.getD k it0) = true → ∀ i, i < k + 1 → itB (l.getD i it0) = true) := fun h i hi => by
          rcases Nat.lt_or_ge i k with h' | h'
          · exact hall.out i h'
          · rw [show i = k by omega]; exact h
        have HRk := fun w => HR (l.getD k it0).n (l.getD k it0).d w
        have HWk := fun w => HW (l.getD k it0).u w
        generalize itB (l.getD k it0) = z at *
        generalize rateB (l.getD k it0).n (l.getD k it0).d = y at *
        generalize inB (l.getD k it0).u 1 8 = x at *
        generalize (l.getD k it0).u = u at *
        generalize (l.getD k it0).n = n at *
        generalize (l.getD k it0).d = d at *
        cases x with
        | false =>
          go_wp2_with (fail)
          refine (HWk _).out.mono ?_
          rintro e w2 ⟨rfl, rfl⟩
          go_wp2_with (fail)
          go_ret
          exact ⟨ret_i (HBk.out (by rw [HQk.out]; rfl)), hb⟩
        | true =>
          cases y with
          | false =>
            go_wp2_with (fail)
            refine (HWk _).out.mono ?_
            rintro e w2 ⟨rfl, rfl⟩
            go_wp2_with (fail)
            refine (HRk _).out.mono ?_
            rintro e w2 ⟨rfl, hb2⟩
            go_wp2_with (fail)
            go_ret
            exact ⟨ret_i (HBk.out (by rw [HQk.out]; rfl)), bl_call hb hb2⟩
          | true =>
            go_wp2_with (fail)
            refine (HWk _).out.mono ?_
            rintro e w2 ⟨rfl, rfl⟩
            go_wp2_with (fail)
            refine (HRk _).out.mono ?_
            rintro e w2 ⟨rfl, hb2⟩
            go_wp2_with (fail)
            go_roundg gi
            case rel => exact ⟨k + 1, by have := HK.out; show _ = _; omega, by go_num, HN.out (by rw [HQk.out]; rfl), bl_call hb hb2⟩
            case measure => omega
theorem isPart_c (n : Int) (w : World) : Calls Try.prog 95 #[.int .i64 n] w fun e w' => e = .returned (.bool (inB n 0 1000000)) ∧ w = w' := by
  by_cases h1 : 0 ≤ n
  · by_cases h2 : n ≤ 1000000
    all_goals
      go_enter Try.func95, Try.ntmps95
      go_wp2
      go_ret
      exact ⟨ret_b (by simp [inB]; omega), rfl⟩
  · go_enter Try.func95, Try.ntmps95
    go_wp2
    go_ret
    exact ⟨ret_b (by simp [inB]; omega), rfl⟩
theorem limB_eq (n d : Int) : limB n d = (inB d 1 1000000 && inB n 0 1000000) := by
  unfold limB inB
  rw [Bool.eq_iff_iff]
  simp only [Bool.and_eq_true, decide_eq_true_eq]
theorem isLimit_c (n d : Int) (w : World) : Calls Try.prog 91 #[.agg #[.int .i64 n, .int .i64 d]] w fun e w' => e = .returned (.bool (limB n d)) ∧ Below w.heap.size w w' := by
  have hb0 := bl_alloc (Below.refl w.heap.size w) (.cells #[.int .i64 n, .int .i64 d] 30)
  have H1 := fun w => Lib.hid (isPart_c n w)
  have HR := Lib.hid (limB_eq n d)
  generalize limB n d = res at *
  generalize inB n 0 1000000 = y at *
  by_cases h1 : 1 ≤ d
  · by_cases h2 : d ≤ 1000000
    · have HX : Hid (inB d 1 1000000 = true) := by show _ = _; unfold inB; rw [decide_eq_true h1, decide_eq_true h2]; rfl
      go_enter Try.func91, Try.ntmps91
      go_wp2_with (fail)
      refine (H1 _).out.mono ?_
      rintro e w1 ⟨rfl, rfl⟩
      go_wp2_with (fail)
      go_ret
      exact ⟨ret_b (by rw [HR.out, HX.out]; rfl), hb0⟩
    · have HX : Hid (inB d 1 1000000 = false) := by show _ = _; unfold inB; rw [decide_eq_false h2]; simp
      go_enter Try.func91, Try.ntmps91
      go_wp2_with (fail)
      go_ret
      exact ⟨ret_b (by rw [HR.out, HX.out]; rfl), hb0⟩
  · have HX : Hid (inB d 1 1000000 = false) := by show _ = _; unfold inB; rw [decide_eq_false h1]; rfl
    go_enter Try.func91, Try.ntmps91
    go_wp2_with (fail)
    go_ret
    exact ⟨ret_b (by rw [HR.out, HX.out]; rfl), hb0⟩
theorem risLimit_c (n d : Int) (w : World) : Calls Try.prog 72 #[.agg #[.int .i64 n, .int .i64 d]] w fun e w' => e = .returned (.bool (limB n d)) ∧ Below w.heap.size w w' := by
  have hb0 := bl_alloc (Below.refl w.heap.size w) (.cells #[.int .i64 n, .int .i64 d] 30)
  have H1 := fun w => Lib.hid (within_c d 1 1000000 w)
  have H2 := fun w => Lib.hid (within_c n 0 1000000 w)
  have HR := Lib.hid (limB_eq n d)
  generalize limB n d = res at *
  generalize inB d 1 1000000 = x at *
  generalize inB n 0 1000000 = y at *
  cases x with
  | false =>
    go_enter Try.func72, Try.ntmps72
    go_wp2_with (fail)
    refine (H1 _).out.mono ?_
    rintro e w1 ⟨rfl, rfl⟩
    go_wp2_with (fail)
    go_ret
    exact ⟨ret_b (by rw [HR.out]; rfl), hb0⟩
  | true =>
    go_enter Try.func72, Try.ntmps72
    go_wp2_with (fail)
    refine (H1 _).out.mono ?_
    rintro e w1 ⟨rfl, rfl⟩
    go_wp2_with (fail)
    refine (H2 _).out.mono ?_
    rintro e w1 ⟨rfl, rfl⟩
    go_wp2_with (fail)
    go_ret
    exact ⟨ret_b (by rw [HR.out]; rfl), hb0⟩
set_option maxHeartbeats 1000000 in
theorem part_c (n d : Int) (w : World) (h : rateB n d = true) : Calls Try.prog 82 #[.agg #[.int .i64 n, .int .i64 d]] w fun e w' => e = .returned (.int .i64 (part n d)) ∧ Below w.heap.size w w' := by
  have hb0 := bl_alloc (Below.refl w.heap.size w) (.cells #[.int .i64 n, .int .i64 d] 30)
  obtain ⟨h1, h2, h3, h4⟩ := rateB_iff.1 h
  obtain ⟨p0, p1⟩ := part_in h
  have HP : Hid (part n d = n * 2520 / d) := by show _ = _; unfold part; rw [if_neg (by omega)]
  have q1 : wrap64 (n * 2520) = n * 2520 := IntWalk.wrap64_in _ ⟨by omega, by omega⟩
  have q2 : wrap64 (n * 2520 / d) = n * 2520 / d := by rw [← HP.out]; exact IntWalk.wrap64_in _ ⟨by omega, by omega⟩
  have hd0 : (d == 0) = false := by rw [beq_eq_false_iff_ne]; omega
  have hd1 : ¬ d = 0 := by omega
  have hn0 : 0 ≤ n * 2520 := by omega
  go_enter Try.func82, Try.ntmps82
  go_wp2_with (fail)
  go_ret
  exact ⟨by rw [HP.out]; first | rfl | (rw [q2]) | skip, hb0⟩
end Go.Proofs.Ytgbjglkiaoplmaa
