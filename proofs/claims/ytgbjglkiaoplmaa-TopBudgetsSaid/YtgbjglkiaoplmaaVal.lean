/- Which rates, budgets and limits are right: package budget's and the specification's. -/
import Derived.Test.YtgbjglkiaoplmaaItm
namespace Go.Proofs.Ytgbjglkiaoplmaa
open Go.RowKit

theorem isRate_c (n d : Int) (w : World) : Calls Try.prog 64 #[.agg #[.int .i64 n, .int .i64 d]] w fun e w' => e = .returned (.bool (rateB n d)) ∧ Below w.heap.size w w' := by
  have hb0 := bl_alloc (Below.refl w.heap.size w) (.cells #[.int .i64 n, .int .i64 d] 30)
  by_cases h1 : 1 ≤ d
  · by_cases h2 : d ≤ 10
    · by_cases h3 : 0 ≤ n
      · by_cases h4 : n ≤ d
        all_goals
          go_enter Try.func64, Try.ntmps64
          go_wp2
          go_ret
          exact ⟨ret_b (by unfold rateB; simp; omega), hb0⟩
      · go_enter Try.func64, Try.ntmps64
        go_wp2
        go_ret
        exact ⟨ret_b (by unfold rateB; simp; omega), hb0⟩
    · go_enter Try.func64, Try.ntmps64
      go_wp2
      go_ret
      exact ⟨ret_b (by unfold rateB; simp; omega), hb0⟩
  · go_enter Try.func64, Try.ntmps64
    go_wp2
    go_ret
    exact ⟨ret_b (by unfold rateB; simp; omega), hb0⟩
def inB (n lo hi : Int) : Bool := decide (lo ≤ n) && decide (n ≤ hi)
theorem within_c (n lo hi : Int) (w : World) : Calls Try.prog 65 #[.int .i64 n, .int .i64 lo, .int .i64 hi] w fun e w' => e = .returned (.bool (inB n lo hi)) ∧ w = w' := by
  by_cases h1 : lo ≤ n
  · by_cases h2 : n ≤ hi
    all_goals
      go_enter Try.func65, Try.ntmps65
      go_wp2
      go_ret
      exact ⟨ret_b (by simp [inB]; omega), rfl⟩
  · go_enter Try.func65, Try.ntmps65
    go_wp2
    go_ret
    exact ⟨ret_b (by simp [inB]; omega), rfl⟩
theorem risRate_c (n d : Int) (w : World) : Calls Try.prog 66 #[.agg #[.int .i64 n, .int .i64 d]] w fun e w' => e = .returned (.bool (rateB n d)) ∧ Below w.heap.size w w' := by
  have hb0 := bl_alloc (Below.refl w.heap.size w) (.cells #[.int .i64 n, .int .i64 d] 30)
  have H1 := fun w => Lib.hid (within_c d 1 10 w)
  have H2 := fun w => Lib.hid (within_c n 0 d w)
  have HR : Hid (rateB n d = (inB d 1 10 && inB n 0 d)) := by
    show _ = _
    unfold rateB inB
    rw [Bool.eq_iff_iff]
    simp only [Bool.and_eq_true, decide_eq_true_eq]
  generalize rateB n d = res at *
  generalize inB d 1 10 = x at *
  generalize inB n 0 d = y at *
  cases x with
  | false =>
    go_enter Try.func66, Try.ntmps66
    go_wp2_with (fail)
    refine (H1 _).out.mono ?_
    rintro e w1 ⟨rfl, rfl⟩
    go_wp2_with (fail)
    go_ret
    exact ⟨ret_b (by rw [HR.out]; rfl), hb0⟩
  | true =>
    go_enter Try.func66, Try.ntmps66
    go_wp2_with (fail)
    refine (H1 _).out.mono ?_
    rintro e w1 ⟨rfl, rfl⟩
    go_wp2_with (fail)
    refine (H2 _).out.mono ?_
    rintro e w1 ⟨rfl, rfl⟩
    go_wp2_with (fail)
    go_ret
    exact ⟨ret_b (by rw [HR.out]; rfl), hb0⟩
theorem valE_bad {l : List It} {k : Nat} (hl : ¬ 6 < l.length) (hk : k < l.length) (h : itB (l.getD k it0) = false) : valE l = 1 := by
  unfold valE
  rw [if_neg hl, if_neg]
  intro h2
  rw [allIt_iff.1 h2 k hk] at h; cases h
theorem valE_good {l : List It} (hl : ¬ 6 < l.length) (h : ∀ k, k < l.length → itB (l.getD k it0) = true) : valE l = 0 := by
  unfold valE
  rw [if_neg hl, if_pos (allIt_iff.2 h)]
theorem itB_eq (x : It) : itB x = (decide (1 ≤ x.u) && (decide (x.u ≤ 8) && rateB x.n x.d)) := by
  unfold itB
  rw [Bool.eq_iff_iff]
  simp only [Bool.and_eq_true, decide_eq_true_eq, and_assoc]
set_option maxHeartbeats 4000000 in
theorem Validate_c (A : Option Addr) (l : List It) (cap : Nat) (w : World) (hlen : l.length ≤ 1000) (hr : Rd w A (cellsI l)) :
    Calls Try.prog 24 #[.slice A l.length cap] w fun e w' => e = .returned (.int .i64 (valE l)) ∧ Below w.heap.size w w' := by
  by_cases hl : 6 < l.length
  · have hl' : (6 : Int) < (l.length : Int) := by omega
    have hE : valE l = 3 := by unfold valE; rw [if_pos hl]
    rw [hE]
    go_enter Try.func24, Try.ntmps24
    go_wp2_with (fail)
    go_ret
    exact ⟨rfl, Below.refl _ _⟩
  · have hl' : ¬ (6 : Int) < (l.length : Int) := by omega
    have HB := Lib.hid (fun k => @valE_bad l k hl)
    have HG := Lib.hid (@valE_good l hl)
    have hl6 : l.length ≤ 6 := by omega
    have HQ := Lib.hid itB_eq
    have HR := fun n d w => Lib.hid (isRate_c n d w)
    generalize valE l = res at *
    go_enter Try.func24, Try.ntmps24
    go_wp2_with (fail)
    go_loopg [10] l.length (fun gk iv wr => ∃ k : Nat, Hid (k + gk = l.length) ∧ iv = .int .i64 (k : Int) ∧ Hid (∀ i, i < k → itB (l.getD i it0) = true) ∧ Below w.heap.size w wr)
    case atStart => exact ⟨0, by simp [Hid], rfl, fun i hi => absurd hi (by omega), Below.refl _ _⟩
    case round =>
      obtain ⟨k, HK, rfl, hall, hb⟩ := hrel
      rcases gk with _ | gi
      · obtain rfl : k = l.length := HK.out
        go_wp2_with (fail)
        go_ret
        exact ⟨ret_i (HG.out hall.out), hb⟩
      · have hkN : k < l.length := by have := HK.out; omega
        have hkN' : (k : Int) < (l.length : Int) := by omega
        obtain ⟨b, o, rfl, _, c0, c1, c2⟩ := (hr.later hb).itm hkN
        have HBk := Lib.hid (HB.out k hkN)
        have HQk := Lib.hid (HQ.out (l.getD k it0))
        have HN : Hid (itB (l.getD k it0) = true → ∀ i, i < k + 1 → itB (l.getD i it0) = true) := fun h i hi => by
          rcases Nat.lt_or_ge i k with h' | h'
          · exact hall.out i h'
          · rw [show i = k by omega]; exact h
        have HRk := fun w => HR (l.getD k it0).n (l.getD k it0).d w
        have hb1 := bl_alloc hb (.cells #[.int .i64 (l.getD k it0).u, .int .i64 (l.getD k it0).n, .int .i64 (l.getD k it0).d] 50)
        generalize itB (l.getD k it0) = z at *
        generalize rateB (l.getD k it0).n (l.getD k it0).d = y at *
        generalize (l.getD k it0).u = u at *
        generalize (l.getD k it0).n = n at *
        generalize (l.getD k it0).d = d at *
        by_cases h1 : u < 1
        · go_wp2_with (fail)
          go_ret
          exact ⟨ret_i (HBk.out (by rw [HQk.out, decide_eq_false (by omega)]; rfl)), hb1⟩
        · by_cases h2 : 8 < u
          · go_wp2_with (fail)
            go_ret
            exact ⟨ret_i (HBk.out (by rw [HQk.out, decide_eq_true (show 1 ≤ u by omega), decide_eq_false (show ¬ u ≤ 8 by omega)]; rfl)), hb1⟩
          · cases y with
            | false =>
              go_wp2_with (fail)
              refine (HRk _).out.mono ?_
              rintro e w2 ⟨rfl, hb2⟩
              go_wp2_with (fail)
              go_ret
              exact ⟨ret_i (HBk.out (by rw [HQk.out]; simp)), bl_call hb1 hb2⟩
            | true =>
              go_wp2_with (fail)
              refine (HRk _).out.mono ?_
              rintro e w2 ⟨rfl, hb2⟩
              go_wp2_with (fail)
              go_roundg gi
              case rel => exact ⟨k + 1, by have := HK.out; show _ = _; omega, by go_num, HN.out (by rw [HQk.out, decide_eq_true (show 1 ≤ u by omega), decide_eq_true (show u ≤ 8 by omega)]; rfl), bl_call hb1 hb2⟩
              case measure => omega
end Go.Proofs.Ytgbjglkiaoplmaa
