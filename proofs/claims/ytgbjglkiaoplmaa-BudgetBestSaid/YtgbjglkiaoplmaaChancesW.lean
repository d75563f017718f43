/- The walk of 'BudgetChances'. -/
import Derived.Test.YtgbjglkiaoplmaaKno
import Derived.Test.YtgbjglkiaoplmaaRtt
namespace Go.Proofs.Ytgbjglkiaoplmaa
open Go.RowKit

theorem chnE_ok {l : List It} (h : chnE l = 0) : valE l = 0 ∧ usesL l ≤ 8 := by
  unfold chnE at h
  split at h
  · rename_i h0
    split at h
    · cases h
    · exact ⟨h0, by omega⟩
  · rename_i h0; exact absurd h h0
theorem chn_facts {l : List It} (h : chnE l = 0) : chnG l = chanceL l ∧ (0 ≤ (chanceL l).1 ∧ (chanceL l).1 ≤ (chanceL l).2 ∧ 0 < (chanceL l).2 ∧ (chanceL l).2 ≤ 100000000) ∧ OkIs 8 l := by
  obtain ⟨h1, h2⟩ := chnE_ok h
  exact ⟨by unfold chnG; rw [if_pos h], chance_in (val_ok h1) h2, val_ok h1⟩
theorem tot_facts {l : List It} (h : valE l = 0) : totG l = rat (partsL l) ∧ (0 ≤ (rat (partsL l)).1 ∧ (rat (partsL l)).1 ≤ 120960) ∧ 0 < (rat (partsL l)).2 ∧ (rat (partsL l)).2 ≤ 2520 := by
  have hb := parts_bound h
  have hn := rat_num hb.1
  exact ⟨by unfold totG; rw [if_pos h], ⟨hn.1, by omega⟩, rat_den _⟩
set_option maxRecDepth 100000 in
set_option maxHeartbeats 4000000 in
theorem budgetChances_walk (A : Option Addr) (l : List It) (cap : Nat) (w : World) (_hcap : l.length ≤ cap) (hr : Rd w A (cellsI l)) :
    Calls Try.prog 4 #[.slice A l.length cap] w fun e w' => e = .returned (.bool true) ∧ Below w.heap.size w w' := by
  by_cases hL : 50 < l.length
  · have hd : decide (50 < l.length) = true := decide_eq_true hL
    go_enter Try.func4, Try.ntmps4
    go_wp2_with (fail)
    refine (Long_c _ _ _ _).mono ?_
    rintro e w1 ⟨rfl, rfl⟩
    rw [hd]
    go_wp2_with (fail)
    refine (known_c _).mono ?_
    rintro e w2 ⟨rfl, hb2⟩
    go_wp2_with (fail)
    go_ret
    exact ⟨rfl, hb2⟩
  · have hd : decide (50 < l.length) = false := decide_eq_false hL
    have HB := fun w hr => Lib.hid (Chance_c A l cap w (by omega) hr)
    have HR := fun w hr => Lib.hid (rChance_c A l cap w (by omega) hr)
    by_cases hE : chnE l = 0
    · obtain ⟨h1, h2⟩ := chnE_ok hE
      obtain ⟨f1, f2, f3⟩ := chn_facts hE
      obtain ⟨t1, t2, t3⟩ := tot_facts h1
      have HT := fun w hr => Lib.hid (Total_c A l cap w (by omega) hr)
      have hct := chance_total f3 h2
      rw [t1, h1] at HT
      rw [f1, hE] at HB HR
      have hdd : decide ((rat (partsL l)).1 * (chanceL l).2 < (chanceL l).1 * (rat (partsL l)).2) = false := decide_eq_false hct
      have p1 := mul_in (a := (rat (partsL l)).1) (b := (chanceL l).2) (A := 120960) (B := 100000000) t2 ⟨by omega, by omega⟩
      have p2 := mul_in (a := (chanceL l).1) (b := (rat (partsL l)).2) (A := 100000000) (B := 2520) ⟨by omega, by omega⟩ ⟨by omega, by omega⟩
      have HLs := fun w => Lib.hid (lless_c (rat (partsL l)).1 (rat (partsL l)).2 (chanceL l).1 (chanceL l).2 w (by omega) (by omega))
      rw [hdd] at HLs
      have HF1 := fun w => Lib.hid (fair_c (chanceL l).1 (chanceL l).2 w (by omega) (by omega) (by omega) (by omega))
      have HF2 := fun w => Lib.hid (fair_c (rat (partsL l)).1 (rat (partsL l)).2 w (by omega) (by omega) (by omega) (by omega))
      have hle : (chanceL l).1 ≤ (chanceL l).2 := f2.2.1
      clear hct p1 p2 hdd f1 f2 f3 t1 t2 t3 h1 h2 hE
      generalize (chanceL l).1 = cn at *
      generalize (chanceL l).2 = cd at *
      generalize (rat (partsL l)).1 = tn at *
      generalize (rat (partsL l)).2 = td at *
      go_enter Try.func4, Try.ntmps4
      go_wp2_with (fail)
      refine (Long_c _ _ _ _).mono ?_
      rintro e w1 ⟨rfl, rfl⟩
      rw [hd]
      go_wp2_with (fail)
      refine (HB _ hr).out.mono ?_
      rintro e w2 ⟨rfl, hb2⟩
      have hb02 := bl_alloc hb2 (.cells #[.int .i64 cn, .int .i64 cd] 30)
      have x2 : Bx (w2.alloc (.cells #[.int .i64 cn, .int .i64 cd] 30)) w2.heap.size 30 #[.int .i64 cn, .int .i64 cd] := Bx.new w2 _ _
      clear hb2
      go_wp2_with (fail)
      refine (HR _ (hr.later hb02)).out.mono ?_
      rintro e w3 ⟨rfl, hb3⟩
      have hb03 := bl_alloc (bl_call hb02 hb3) (.cells #[.int .i64 cn, .int .i64 cd] 30)
      have x3 := (x2.call hb3).alloc (.cells #[.int .i64 cn, .int .i64 cd] 30)
      have y3 : Bx (w3.alloc (.cells #[.int .i64 cn, .int .i64 cd] 30)) w3.heap.size 30 #[.int .i64 cn, .int .i64 cd] := Bx.new w3 _ _
      obtain ⟨p0, p1, _, _⟩ := x3.two
      obtain ⟨q0, q1, _, _⟩ := y3.two
      clear hb02 hb3 x2
      go_wp2_with (fail)
      refine (HT _ (hr.later hb03)).out.mono ?_
      rintro e w4 ⟨rfl, hb4⟩
      have hb04 := bl_alloc (bl_call hb03 hb4) (.cells #[.int .i64 tn, .int .i64 td] 30)
      have x4 := (x3.call hb4).alloc (.cells #[.int .i64 tn, .int .i64 td] 30)
      have z4 : Bx (w4.alloc (.cells #[.int .i64 tn, .int .i64 td] 30)) w4.heap.size 30 #[.int .i64 tn, .int .i64 td] := Bx.new w4 _ _
      clear hb03 hb4 x3 y3 p0 p1 q0 q1
      obtain ⟨p0, p1, _, _⟩ := x4.two
      obtain ⟨q0, q1, _, _⟩ := z4.two
      go_wp2_with (fail)
      refine (HF1 _).out.mono ?_
      rintro e w5 ⟨rfl, hb5⟩
      have hb05 := bl_call hb04 hb5
      have x5 := x4.call hb5
      have z5 := z4.call hb5
      clear hb04 hb5 x4 z4 p0 p1 q0 q1
      obtain ⟨p0, p1, _, _⟩ := x5.two
      obtain ⟨q0, q1, _, _⟩ := z5.two
      go_wp2_with (fail)
      refine (HF2 _).out.mono ?_
      rintro e w6 ⟨rfl, hb6⟩
      have hb06 := bl_call hb05 hb6
      have x6 := x5.call hb6
      have z6 := z5.call hb6
      clear hb05 hb6 x5 z5 p0 p1 q0 q1
      obtain ⟨p0, p1, _, _⟩ := x6.two
      obtain ⟨q0, q1, _, _⟩ := z6.two
      go_wp2_with (fail)
      refine (HLs _).out.mono ?_
      rintro e w7 ⟨rfl, hb7⟩
      have hb07 := bl_call hb06 hb7
      have x7 := x6.call hb7
      clear hb06 hb7 x6 z6 p0 p1 q0 q1
      obtain ⟨p0, p1, _, _⟩ := x7.two
      go_wp2_with (fail)
      refine (known_c _).mono ?_
      rintro e w8 ⟨rfl, hb8⟩
      have hb08 := bl_call hb07 hb8
      go_wp2_with (fail)
      go_ret
      exact ⟨rfl, hb08⟩
    · have hE' : (chnE l == 0) = false := by rw [beq_eq_false_iff_ne]; exact hE
      generalize chnE l = z at *
      generalize (chnG l).1 = cn at *
      generalize (chnG l).2 = cd at *
      go_enter Try.func4, Try.ntmps4
      go_wp2_with (fail)
      refine (Long_c _ _ _ _).mono ?_
      rintro e w1 ⟨rfl, rfl⟩
      rw [hd]
      go_wp2_with (fail)
      refine (HB _ hr).out.mono ?_
      rintro e w2 ⟨rfl, hb2⟩
      have hb02 := bl_alloc hb2 (.cells #[.int .i64 cn, .int .i64 cd] 30)
      have x2 : Bx (w2.alloc (.cells #[.int .i64 cn, .int .i64 cd] 30)) w2.heap.size 30 #[.int .i64 cn, .int .i64 cd] := Bx.new w2 _ _
      clear hb2
      go_wp2_with (fail)
      refine (HR _ (hr.later hb02)).out.mono ?_
      rintro e w3 ⟨rfl, hb3⟩
      have hb03 := bl_alloc (bl_call hb02 hb3) (.cells #[.int .i64 cn, .int .i64 cd] 30)
      have x3 := (x2.call hb3).alloc (.cells #[.int .i64 cn, .int .i64 cd] 30)
      have y3 : Bx (w3.alloc (.cells #[.int .i64 cn, .int .i64 cd] 30)) w3.heap.size 30 #[.int .i64 cn, .int .i64 cd] := Bx.new w3 _ _
      obtain ⟨p0, p1, _, _⟩ := x3.two
      obtain ⟨q0, q1, _, _⟩ := y3.two
      clear hb02 hb3 x2
      go_wp2_with (fail)
      refine (known_c _).mono ?_
      rintro e w4 ⟨rfl, hb4⟩
      go_wp2_with (fail)
      go_ret
      exact ⟨rfl, bl_call hb03 hb4⟩
end Go.Proofs.Ytgbjglkiaoplmaa
