/- The chapter's examples: 'known' answers true; which lists and tables are long. -/
import Derived.Test.YtmmjdabioolodaaSmc
import Derived.Test.YtmmjdabioolodaaWay
import Derived.Test.YtmmjdabioolodaaCal
import Derived.Test.YtmmjdabioolodaaQui
namespace Go.Proofs.Ytmmjdabioolodaa
open Go.RowKit

theorem many_c (A : Option Addr) (m c : Nat) (w : World) : Calls Try.prog 17 #[.slice A m c] w fun e w' => e = .returned (.bool (decide (40 < m))) ∧ w = w' := by
  by_cases h : 40 < m
  · have h' : (40 : Int) < (m : Int) := by omega
    go_enter Try.func17, Try.ntmps17
    go_wp2_with (fail)
    go_ret
    exact ⟨ret_b (by simp [h]), rfl⟩
  · have h' : ¬ (40 : Int) < (m : Int) := by omega
    go_enter Try.func17, Try.ntmps17
    go_wp2_with (fail)
    go_ret
    exact ⟨ret_b (by simp <;> omega), rfl⟩
/-- Whether one of the first k rows is long. -/
def longTo (ls : List (List Int)) (k : Nat) : Bool := allTo (fun i => !decide (40 < (ls.getD i []).length)) k
def longB (ls : List (List Int)) : Bool := !(longTo ls ls.length) || decide (40 < ls.length)
theorem brief_of {ls : List (List Int)} (h : longB ls = false) : Brief ls ∧ ls.length ≤ 40 ∧ ∀ k, k < ls.length → (ls.getD k []).length ≤ 40 := by
  unfold longB at h
  rw [Bool.or_eq_false_iff, Bool.not_eq_false', decide_eq_false_iff_not] at h
  have h1 := allTo_iff.1 h.1
  have h2 : ∀ k, k < ls.length → (ls.getD k []).length ≤ 40 := fun k hk => by have := h1 k hk; simp at this; simpa using this
  exact ⟨⟨by omega, fun k hk => by have := h2 k hk; omega⟩, by omega, h2⟩
set_option maxHeartbeats 1000000 in
theorem Long_c (A : Option Addr) (R : Rows) (ls : List (List Int)) (cap : Nat) (w : World) (hlen : ls.length ≤ 9223372036854775807) (hr : RT w A R ls) :
    Calls Try.prog 16 #[.slice A ls.length cap] w fun e w' => e = .returned (.bool (longB ls)) ∧ Below w.heap.size w w' := by
  have HE1 : Hid (longTo ls ls.length = false → longB ls = true) := fun h => by unfold longB; rw [h]; rfl
  have HE2 : Hid (longTo ls ls.length = true → longB ls = decide (40 < ls.length)) := fun h => by unfold longB; rw [h]; rfl
  have HN : Hid (∀ k, k < ls.length → 40 < (ls.getD k []).length → longTo ls ls.length = false) := fun k hk h => allTo_no hk (by simp; simpa using h)
  have HS : Hid (∀ k, longTo ls k = true → ¬ 40 < (ls.getD k []).length → longTo ls (k + 1) = true) := fun k h1 h2 => by unfold longTo at h1 ⊢; rw [allTo, h1]; simp; simpa using h2
  generalize longB ls = res at *
  go_enter Try.func16, Try.ntmps16
  go_wp2_with (fail)
  go_loopg [3] ls.length (fun gk iv wr => ∃ k : Nat, Hid (k + gk = ls.length) ∧ iv = .int .i64 (k : Int) ∧ Hid (longTo ls k = true) ∧ Below w.heap.size w wr)
  case atStart => exact ⟨0, by simp [Hid], rfl, rfl, Below.refl _ _⟩
  case round =>
    obtain ⟨k, HK, rfl, hall, hb⟩ := hrel
    rcases gk with _ | gi
    · obtain rfl : k = ls.length := HK.out
      have HL := Lib.hid (HE2.out hall.out)
      by_cases h40 : 40 < ls.length
      · have h' : (40 : Int) < (ls.length : Int) := by omega
        go_wp2_with (fail)
        go_ret
        exact ⟨ret_b (by rw [HL.out]; simp [h40]), hb⟩
      · have h' : ¬ (40 : Int) < (ls.length : Int) := by omega
        go_wp2_with (fail)
        go_ret
        exact ⟨ret_b (by rw [HL.out]; simp <;> omega), hb⟩
    · have hlt : k < ls.length := by have := HK.out; omega
      have hlt' : (k : Int) < (ls.length : Int) := by omega
      obtain ⟨b, o, rfl, _, hc⟩ := (hr.later hb).at_ hlt
      have HNk := Lib.hid (HN.out k hlt)
      have HSk := Lib.hid (HS.out k hall.out)
      generalize (ls.getD k []).length = m at *
      by_cases h40 : 40 < m
      · have hd : decide (40 < m) = true := decide_eq_true h40
        go_wp2_with (fail)
        refine (many_c _ _ _ _).mono ?_
        rintro e w1 ⟨rfl, rfl⟩
        rw [hd]
        go_wp2_with (fail)
        go_ret
        exact ⟨ret_b (HE1.out (HNk.out h40)), hb⟩
      · have hd : decide (40 < m) = false := decide_eq_false h40
        go_wp2_with (fail)
        refine (many_c _ _ _ _).mono ?_
        rintro e w1 ⟨rfl, rfl⟩
        rw [hd]
        go_wp2_with (fail)
        go_roundg gi
        case rel => exact ⟨k + 1, by have := HK.out; show _ = _; omega, by go_num, HSk.out h40, hb⟩
        case measure => omega
def exG : List (List Int) := [[2, 1]]
theorem ex_way : wayG exG [3] = 4 ∧ wayB exG [3] = true := by decide +kernel
theorem ex_calm : calmG exG [3] = (1, true) := by decide +kernel
theorem ex_quiet : quietG exG = some [-1, 2] ∧ okG exG = true := by decide +kernel
theorem ex_smo : smoG exG [[3], [5]] = (1, true) ∧ rowB exG [[3], [5]] = true := by decide +kernel
theorem gains_c (w : World) : Calls Try.prog 54 #[] w fun e w' => ∃ A R, e = .returned (.slice A exG.length 1) ∧ RT w' A R exG ∧ Below w.heap.size w w' := by
  have hr0 := rd_newI w 3 [2, 1]
  have hb0 := bl_alloc (Below.refl w.heap.size w) (.cells (ints [2, 1]).toArray 3)
  have hrt := rt_one (c := 2) 23 hr0
  have hb1 := bl_alloc hb0 (.cells #[.slice (some ⟨w.heap.size, 0, none⟩) 2 2] 23)
  go_enter Try.func54, Try.ntmps54
  go_wp2_with (fail)
  go_ret
  rw [World.size_alloc] at hrt
  exact ⟨_, _, rfl, hrt, hb1⟩
theorem ex_brief : Brief exG := ⟨by decide, fun k hk => by
  match k, hk with
  | 0, _ => decide⟩
set_option maxRecDepth 100000 in
set_option maxHeartbeats 4000000 in
theorem known_c (w : World) : Calls Try.prog 18 #[] w fun e w' => e = .returned (.bool true) ∧ Below w.heap.size w w' := by
  have HW : Hid (∀ A B R w, RT w A R exG → Rd w B (ints [3]) → Calls Try.prog 28 #[.slice A 1 1, .slice B 1 1] w fun e w' => e = .returned (.tuple #[.int .i64 4, .int .i64 0]) ∧ Below w.heap.size w w') := fun A B R w h1 h2 => by
    have := Ways_c A B R exG [3] 1 1 w ex_brief (by decide) h1 h2
    rw [ex_way.1, ex_way.2] at this
    exact this
  have HC : Hid (∀ A B R w, RT w A R exG → Rd w B (ints [3]) → Calls Try.prog 33 #[.slice A 1 1, .slice B 1 1] w fun e w' => e = .returned (.tuple #[.int .i64 1, .bool true, .int .i64 0]) ∧ Below w.heap.size w w') := fun A B R w h1 h2 => by
    have := Calmest_c A B R exG [3] 1 1 w ex_brief (by decide) h1 h2
    rw [ex_calm, ex_way.2] at this
    exact this
  have HQ : Hid (∀ A R w, RT w A R exG → Calls Try.prog 31 #[.slice A 1 1] w fun e w' => ∃ A' c', e = .returned (.tuple #[.slice A' 2 c', .bool true, .int .i64 0]) ∧ Rd w' A' (ints [-1, 2]) ∧ Below w.heap.size w w') := fun A R w h1 => by
    have := Quiet_c A R exG 1 w ex_brief h1
    rw [ex_quiet.1, ex_quiet.2] at this
    exact this
  have HS : Hid (∀ A B R T w, RT w A R exG → RT w B T [[3], [5]] → Calls Try.prog 46 #[.slice A 1 1, .slice B 2 2] w fun e w' => e = .returned (.tuple #[.int .i64 1, .bool true, .int .i64 0]) ∧ Below w.heap.size w w') := fun A B R T w h1 h2 => by
    have := Smooth_c A B R T exG [[3], [5]] 1 2 w ex_brief ⟨by decide, fun k hk => by
      match k, hk with
      | 0, _ => decide
      | 1, _ => decide⟩ h1 h2
    rw [ex_smo.1, ex_smo.2] at this
    exact this
  have HI : Hid (∀ A B c w, Rd w A (ints [-1, 2]) → Rd w B (ints [-1, 2]) → Calls Try.prog 23 #[.slice A 2 c, .slice B 2 2] w fun e w' => e = .returned (.bool true) ∧ Below w.heap.size w w') := fun A B c w h1 h2 => by
    have := sameInts_c A B [-1, 2] [-1, 2] c 2 w (by decide) h1 h2
    exact this
  have HG : Hid (∀ w, Calls Try.prog 54 #[] w fun e w' => ∃ A R, e = .returned (.slice A 1 1) ∧ RT w' A R exG ∧ Below w.heap.size w w') := fun w => gains_c w
  go_enter Try.func18, Try.ntmps18
  go_wp2_with (fail)
  refine (HG.out _).mono ?_
  rintro e w1 ⟨A1, R1, rfl, hr1, hb1⟩
  have hn1 := rd_newI w1 3 [3]
  have hc1 := bl_alloc (Below.refl w1.heap.size w1) (.cells (ints [3]).toArray 3)
  have hk1 := bl_call hb1 hc1
  have hr1' := hr1.later hc1
  go_wp2_with (fail)
  refine (HW.out _ _ _ _ hr1' hn1).mono ?_
  rintro e w2 ⟨rfl, hb2⟩
  have hk2 := bl_call hk1 hb2
  clear hn1 hc1 hk1 hr1 hr1' hb1 hb2
  go_wp2_with (fail)
  refine (HG.out _).mono ?_
  rintro e w3 ⟨A3, R3, rfl, hr3, hb3⟩
  have hn3 := rd_newI w3 3 [3]
  have hc3 := bl_alloc (Below.refl w3.heap.size w3) (.cells (ints [3]).toArray 3)
  have hk3 := bl_call (bl_call hk2 hb3) hc3
  have hr3' := hr3.later hc3
  go_wp2_with (fail)
  refine (HC.out _ _ _ _ hr3' hn3).mono ?_
  rintro e w4 ⟨rfl, hb4⟩
  have hk4 := bl_call hk3 hb4
  clear hn3 hc3 hk3 hr3 hr3' hb3 hb4
  go_wp2_with (fail)
  refine (HG.out _).mono ?_
  rintro e w5 ⟨A5, R5, rfl, hr5, hb5⟩
  go_wp2_with (fail)
  refine (HQ.out _ _ _ hr5).mono ?_
  rintro e w6 ⟨A6, c6, rfl, hq6, hb6⟩
  have hk6 := bl_call (bl_call hk4 hb5) hb6
  clear hr5 hb5 hb6 hk4 hk2
  go_wp2_with (fail)
  refine (HG.out _).mono ?_
  rintro e w7 ⟨A7, R7, rfl, hr7, hb7⟩
  have hm1 := bl_alloc (Below.refl w7.heap.size w7) (.cells (ints [3]).toArray 3)
  have hm2 := bl_alloc (Below.refl (w7.alloc (.cells (ints [3]).toArray 3)).heap.size (w7.alloc (.cells (ints [3]).toArray 3))) (.cells (ints [5]).toArray 3)
  have hn7 := (rd_newI w7 3 [3]).later hm2
  have hn8 := rd_newI (w7.alloc (.cells (ints [3]).toArray 3)) 3 [5]
  have hm12 := bl_call hm1 hm2
  have hrt := rt_two (c := 1) (d := 1) 23 hn7 hn8
  have hm3 := bl_alloc hm12 (.cells #[.slice (some ⟨w7.heap.size, 0, none⟩) 1 1, .slice (some ⟨(w7.alloc (.cells (ints [3]).toArray 3)).heap.size, 0, none⟩) 1 1] 23)
  have hk7 := bl_call (bl_call hk6 hb7) hm3
  have hr7' := hr7.later hm3
  have hq7 := (hq6.later hb7).later hm3
  clear hm1 hm2 hm12 hm3
  simp only [World.size_alloc] at hrt hk7 hr7' hq7
  go_wp2_with (fail)
  refine (HS.out _ _ _ _ _ hr7' hrt).mono ?_
  rintro e w8 ⟨rfl, hb8⟩
  have hk8 := bl_call hk7 hb8
  have hq8 := hq7.later hb8
  have hn9 := rd_newI w8 3 [-1, 2]
  have hc9 := bl_alloc (Below.refl w8.heap.size w8) (.cells (ints [-1, 2]).toArray 3)
  have hk9 := bl_call hk8 hc9
  have hq9 := hq8.later hc9
  clear hn7 hn8 hrt hk7 hr7 hr7' hq7 hq6 hb7 hb8
  go_wp2_with (fail)
  refine (HI.out _ _ _ _ hq9 hn9).mono ?_
  rintro e w10 ⟨rfl, hb10⟩
  go_wp2_with (fail)
  go_ret
  exact ⟨rfl, bl_call hk9 hb10⟩
end Go.Proofs.Ytmmjdabioolodaa
