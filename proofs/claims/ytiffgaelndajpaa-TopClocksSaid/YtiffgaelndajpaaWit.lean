/- Without; Shift and Relax of the specification's; equal lists of jobs. -/
import Derived.Test.YtiffgaelndajpaaRmov
import Derived.Test.YtiffgaelndajpaaDelJ
namespace Go.Proofs.Ytiffgaelndajpaa
open Go.RowKit

theorem rShift_c (A : Option Addr) (l : List T3) (c : Nat) (b : Int) (w : World) (hlen : l.length ≤ 1000) (hr : Rd w A (cellsT l)) :
    Calls Try.prog 48 #[.slice A l.length c, .int .i64 b] w (OutT 40 (movL b b l) (movE b b l) w) := by
  have HC := Lib.hid (rmoved_c A l c b b w (by simp) hlen hr)
  generalize movL b b l = M at *
  generalize movE b b l = v at *
  go_enter Try.func48, Try.ntmps48
  go_wp2_with (fail)
  refine HC.out.mono ?_
  rintro e w1 ⟨A1, c1, rfl, ho1, hb1⟩
  go_wp2_with (fail)
  go_ret2
  exact ⟨A1, c1, rfl, ho1, hb1⟩
theorem rRelax_c (A : Option Addr) (l : List T3) (c : Nat) (b : Int) (w : World) (hlen : l.length ≤ 1000) (hr : Rd w A (cellsT l)) :
    Calls Try.prog 50 #[.slice A l.length c, .int .i64 b] w (OutT 40 (movL 0 b l) (movE 0 b l) w) := by
  have HC := Lib.hid (rmoved_c A l c 0 b w (by simp) hlen hr)
  generalize movL 0 b l = M at *
  generalize movE 0 b l = v at *
  go_enter Try.func50, Try.ntmps50
  go_wp2_with (fail)
  refine HC.out.mono ?_
  rintro e w1 ⟨A1, c1, rfl, ho1, hb1⟩
  go_wp2_with (fail)
  go_ret2
  exact ⟨A1, c1, rfl, ho1, hb1⟩
set_option maxRecDepth 100000 in
set_option maxHeartbeats 2000000 in
/-- Equal lists are equal. -/
theorem rSame_c (A B : Option Addr) (l : List T3) (c d : Nat) (w : World) (hlen : l.length ≤ 100000) (hr : Rd w A (cellsT l)) (hq : Rd w B (cellsT l)) :
    Calls Try.prog 46 #[.slice A l.length c, .slice B l.length d] w fun e w' => e = .returned (.bool true) ∧ Below w.heap.size w w' := by
  go_enter Try.func46, Try.ntmps46
  go_wp2_with (fail)
  go_loopg [5] l.length (fun gk iv wr => ∃ k : Nat, Hid (k + gk = l.length) ∧ iv = .int .i64 (k : Int) ∧ Below w.heap.size w wr)
  case atStart => exact ⟨0, by simp [Hid], rfl, Below.refl _ _⟩
  case round =>
    obtain ⟨k, HK, rfl, hb⟩ := hrel
    rcases gk with _ | gi
    · obtain rfl : k = l.length := HK.out
      go_wp2_with (fail)
      go_ret
      exact ⟨rfl, hb⟩
    · have hkl : k < l.length := by have := HK.out; omega
      have hkl' : (k : Int) < (l.length : Int) := by omega
      obtain ⟨b1, o1, rfl, _, c0, c1, c2⟩ := (hr.later hb).tri hkl
      obtain ⟨b2, o2, rfl, _, d0, d1, d2⟩ := (hq.later hb).tri hkl
      generalize l.getD k t0 = x at *
      obtain ⟨x0, x1, x2⟩ := x
      simp only [] at c0 c1 c2 d0 d1 d2
      go_wp2_with (fail)
      go_quiet (fail)
      go_wp2_with (fail)
      go_roundg gi
      case rel => exact ⟨k + 1, by have := HK.out; show _ = _; omega, by go_num, below_drewN hb _⟩
      case measure => omega
theorem witE_cases (l : List T3) (k : Int) : (validE l ≠ 0 ∧ witE l k = validE l ∧ witL l k = []) ∨ (validE l = 0 ∧ k < 0 ∧ witE l k = 4 ∧ witL l k = []) ∨ (validE l = 0 ∧ 0 ≤ k ∧ (l.length : Int) ≤ k ∧ witE l k = 4 ∧ witL l k = []) ∨ (validE l = 0 ∧ ∃ i : Nat, k = (i : Int) ∧ i < l.length ∧ witE l k = 0 ∧ witL l k = l.eraseIdx i) := by
  by_cases hv : validE l = 0
  · by_cases h1 : k < 0
    · have e : witE l k = 4 := by rw [witE, if_pos hv, if_neg (by omega)]
      exact .inr (.inl ⟨hv, h1, e, by rw [witL, e]; rfl⟩)
    · by_cases h2 : (l.length : Int) ≤ k
      · have e : witE l k = 4 := by rw [witE, if_pos hv, if_neg (by omega)]
        exact .inr (.inr (.inl ⟨hv, by omega, h2, e, by rw [witL, e]; rfl⟩))
      · obtain ⟨i, rfl⟩ := Int.eq_ofNat_of_zero_le (show 0 ≤ k by omega)
        have e : witE l i = 0 := by rw [witE, if_pos hv, if_pos ⟨by omega, by omega⟩]
        exact .inr (.inr (.inr ⟨hv, i, rfl, by omega, e, by rw [witL, if_pos e, Int.toNat_natCast]⟩))
  · have e : witE l k = validE l := by rw [witE, if_neg hv]
    exact .inl ⟨hv, e, by rw [witL, e, if_neg hv]⟩
set_option maxRecDepth 100000 in
set_option maxHeartbeats 2000000 in
theorem Without_c (A : Option Addr) (l : List T3) (c : Nat) (k : Int) (w : World) (hlen : l.length ≤ 1000) (hr : Rd w A (cellsT l)) :
    Calls Try.prog 52 #[.slice A l.length c, .int .i64 k] w (OutT 40 (witL l k) (witE l k) w) := by
  have HV := Lib.hid (validate_c A l c w hlen hr)
  have HO := fun w => Lib.hid (isOneOf_c k l.length w)
  rcases witE_cases l k with ⟨hv, hE, hL⟩ | ⟨hv, h1, hE, hL⟩ | ⟨hv, h0, h1, hE, hL⟩ | ⟨hv, i, rfl, hil, hE, hL⟩
  · have hv' : (validE l != 0) = true := by simpa using hv
    rw [hE, hL]
    clear hE hL
    generalize validE l = ev at *
    go_enter Try.func52, Try.ntmps52
    go_wp2_with (fail)
    refine HV.out.mono ?_
    rintro e w1 ⟨rfl, hb1⟩
    go_wp2_with (fail)
    go_ret2
    exact ⟨none, 0, rfl, World.ownsRow_nil _ _ _ _, hb1⟩
  · have ho : oneB k l.length = false := by rw [← Bool.not_eq_true, oneB_z]; omega
    rw [hE, hL]
    rw [hv] at HV
    rw [ho] at HO
    clear hE hL hv ho h1
    go_enter Try.func52, Try.ntmps52
    go_wp2_with (fail)
    refine HV.out.mono ?_
    rintro e w1 ⟨rfl, hb1⟩
    go_wp2_with (go_at_call 56; refine (HO _).out.mono ?_; rintro e w2 ⟨rfl, rfl⟩)
    go_ret2
    exact ⟨none, 0, rfl, World.ownsRow_nil _ _ _ _, hb1⟩
  · have ho : oneB k l.length = false := by rw [← Bool.not_eq_true, oneB_z]; omega
    rw [hE, hL]
    rw [hv] at HV
    rw [ho] at HO
    clear hE hL hv ho h1 h0
    go_enter Try.func52, Try.ntmps52
    go_wp2_with (fail)
    refine HV.out.mono ?_
    rintro e w1 ⟨rfl, hb1⟩
    go_wp2_with (go_at_call 56; refine (HO _).out.mono ?_; rintro e w2 ⟨rfl, rfl⟩)
    go_ret2
    exact ⟨none, 0, rfl, World.ownsRow_nil _ _ _ _, hb1⟩
  · have ho : oneB (i : Int) l.length = true := by rw [oneB_z]; omega
    have HC := fun w1 h => Lib.hid (cloneJ_c A l c w1 hlen h)
    have HD := fun base A' c' w1 h => Lib.hid (deleteJ_c base A' l c' i w1 hlen hil h)
    rw [hE, hL]
    rw [hv] at HV
    rw [ho] at HO
    have hib : (i : Int) ≤ 1000 := by omega
    clear hE hL hv ho
    go_enter Try.func52, Try.ntmps52
    go_wp2_with (fail)
    refine HV.out.mono ?_
    rintro e w1 ⟨rfl, hb1⟩
    go_wp2_with (go_at_call 56; refine (HO _).out.mono ?_; rintro e w2 ⟨rfl, rfl⟩)
    refine (HC _ (hr.later hb1)).out.mono ?_
    rintro e w3 ⟨A3, c3, rfl, ho3, hb3⟩
    have ho3' := own_base ho3 hb1.size
    have hb13 := bl_call hb1 hb3
    go_wp2_with (fail)
    refine (HD w.heap.size A3 c3 w3 ho3').out.mono ?_
    rintro e w4 ⟨rfl, ho4, hb4⟩
    go_wp2_with (fail)
    go_ret2
    exact ⟨A3, c3, rfl, ho4, hb13.trans hb4⟩
set_option maxRecDepth 100000 in
set_option maxHeartbeats 4000000 in
theorem rWithout_c (A : Option Addr) (l : List T3) (c : Nat) (k : Int) (w : World) (hlen : l.length ≤ 1000) (hc : l.length ≤ c) (hr : Rd w A (cellsT l)) :
    Calls Try.prog 53 #[.slice A l.length c, .int .i64 k] w (OutT 40 (witL l k) (witE l k) w) := by
  have HV := Lib.hid (rvalidate_c A l c w hlen hr)
  rcases witE_cases l k with ⟨hv, hE, hL⟩ | ⟨hv, h1, hE, hL⟩ | ⟨hv, h0, h1, hE, hL⟩ | ⟨hv, i, rfl, hil, hE, hL⟩
  · have hv' : (validE l != 0) = true := by simpa using hv
    rw [hE, hL]
    clear hE hL
    generalize validE l = ev at *
    go_enter Try.func53, Try.ntmps53
    go_wp2_with (fail)
    refine HV.out.mono ?_
    rintro e w1 ⟨rfl, hb1⟩
    go_wp2_with (fail)
    go_ret2
    exact ⟨none, 0, rfl, World.ownsRow_nil _ _ _ _, hb1⟩
  · rw [hE, hL]
    rw [hv] at HV
    clear hE hL hv
    go_enter Try.func53, Try.ntmps53
    go_wp2_with (fail)
    refine HV.out.mono ?_
    rintro e w1 ⟨rfl, hb1⟩
    go_wp2_with (fail)
    go_ret2
    exact ⟨none, 0, rfl, World.ownsRow_nil _ _ _ _, hb1⟩
  · have h0' : ¬ k < 0 := by omega
    have h1' : ¬ k < (l.length : Int) := by omega
    rw [hE, hL]
    rw [hv] at HV
    clear hE hL hv
    go_enter Try.func53, Try.ntmps53
    go_wp2_with (fail)
    refine HV.out.mono ?_
    rintro e w1 ⟨rfl, hb1⟩
    go_wp2_with (fail)
    go_ret2
    exact ⟨none, 0, rfl, World.ownsRow_nil _ _ _ _, hb1⟩
  · rw [hE, hL]
    rw [hv] at HV
    clear hE hL hv
    have hil' : (i : Int) < (l.length : Int) := by omega
    go_enter Try.func53, Try.ntmps53
    go_wp2_with (fail)
    refine HV.out.mono ?_
    rintro e w1 ⟨rfl, hb1⟩
    clear HV
    obtain ⟨b, o, rfl, hbl, _⟩ := (hr.later hb1).tri hil
    have hs1 := fun w1 => headT_run b o l.length c i (by omega) hc w1
    have hs2 := fun w1 => fromT_run b o l.length c (i + 1) (by omega) hc w1
    have hrt : Rd w1 (some ⟨b, o, none⟩) (cellsT (l.take i)) := (hr.later hb1).taken i
    have htl : (l.take i).length = i := by simp; omega
    have hdl : (l.drop (i + 1)).length = l.length - (i + 1) := by simp
    have hXb : Below w1.heap.size w1 ((w1.alloc (.cells #[] 40)).drew) := (bl_alloc (Below.refl _ _) _).drew
    have hBb : Bx ((w1.alloc (.cells #[] 40)).drew) w1.heap.size 40 #[] := (Bx.new w1 _ _).drew
    obtain ⟨A1, c1, W1, E1, o1, g1⟩ := grow_rows ((w1.alloc (.cells #[] 40)).drew) w1.heap.size _ [] (l.take i) (some ⟨b, o, none⟩) c (own_empty (Nat.le_refl _) hBb) (hrt.later hXb) (by simp; omega) hXb.size
    have hW1 : Below w1.heap.size w1 W1 := hXb.trans (grown_below (own_empty (Nat.le_refl _) hBb) g1 hXb.size)
    rw [List.nil_append] at o1
    obtain ⟨o2, ho2e, hrd2⟩ : ∃ o2, (if c = i + 1 then some (⟨b, o, none⟩ : Addr) else some ⟨b, o + (i + 1) * 3, none⟩) = some ⟨b, o2, none⟩ ∧ Rd W1 (some ⟨b, o2, none⟩) (cellsT (l.drop (i + 1))) := by
      by_cases h : c = i + 1
      · exact ⟨o, by rw [if_pos h], .inl (by rw [List.drop_of_length_le (by omega)]; rfl)⟩
      · exact ⟨_, by rw [if_neg h], ((hr.later hb1).later hW1).dropped (i + 1)⟩
    obtain ⟨A2, c2, W2, E2, o2', g2⟩ := grow_rows W1 w1.heap.size _ (l.take i) (l.drop (i + 1)) (some ⟨b, o2, none⟩) (c - (i + 1)) o1 hrd2 (by simp; omega) hW1.size
    have hW2 : Below w1.heap.size w1 W2 := hW1.trans (grown_below o1 g2 hW1.size)
    rw [← List.eraseIdx_eq_take_drop_succ] at o2'
    have HEL : Hid ((l.eraseIdx i).length = i + (l.length - (i + 1))) := by show _ = _; rw [List.length_eraseIdx, if_pos hil]; omega
    simp only [List.length_nil, Nat.zero_add, htl, hdl] at E1 E2
    have F1 := Lib.hid E1
    have F2 := Lib.hid E2
    have q8 : IntKind.i64.wrap ((i : Int) + 1) = (i : Int) + 1 := IntWalk.i64_in _ ⟨by omega, by omega⟩
    have hq : ((i : Int) + 1) = ((i + 1 : Nat) : Int) := by omega
    have q1 : i ≤ c := by omega
    have q2 : (i : Int) ≤ (c : Int) := by omega
    have q3 : (0 : Int) ≤ (i : Int) + 1 := by omega
    have q4 : (i : Int) + 1 ≤ (l.length : Int) := by omega
    have q5 : i + 1 ≤ l.length := by omega
    have q6 : (l.length : Int) ≤ (c : Int) := by omega
    have HO := Lib.hid (own_base o2' hb1.size)
    have hbF := hb1.trans (hW2.mono hb1.size)
    clear E1 E2 hXb hBb o1 g1 g2 hrt htl hdl hrd2 o2' hq hs1 hs2
    go_wp2_with (fail)
    go_region_law (first
      | (refine step_append_run rfl (.tmp 20) (.tmp 23) 22 rfl (.slice (some ⟨w1.heap.size, 0, none⟩) 0 0) (.slice (some ⟨b, o, none⟩) i c) (.slice A1 i c1) W1 (by simp [Act.eval]) (by simp [Act.eval]) F1.out ?_)
      | (refine step_append_run rfl (.tmp 24) (.tmp 28) 22 rfl (.slice A1 i c1) (.slice (some ⟨b, o2, none⟩) (l.length - (i + 1)) (c - (i + 1))) (.slice A2 (i + (l.length - (i + 1))) c2) W2 (by simp [Act.eval]) (by simp [Act.eval, ← ho2e]) F2.out ?_))
    all_goals
      go_wp2_with (fail)
      go_ret2
      exact ⟨A2, c2, by rw [HEL.out]; rfl, HO.out, hbF⟩
end Go.Proofs.Ytiffgaelndajpaa
