/- Contracts of the small functions: which jobs and stretches are right, demands; package clock's and the specification's. -/
import Derived.Test.YtiffgaelndajpaaTri
namespace Go.Proofs.Ytiffgaelndajpaa
open Go.RowKit

def oneB (x c : Int) : Bool := decide (0 ≤ x) && decide (x < c)
theorem oneB_z {x c : Int} : oneB x c = true ↔ 0 ≤ x ∧ x < c := by simp [oneB]
theorem isOneOf_c (x c : Int) (w : World) : Calls Try.prog 56 #[.int .i64 x, .int .i64 c] w fun e w' => e = .returned (.bool (oneB x c)) ∧ w = w' := by
  by_cases h1 : 0 ≤ x
  · by_cases h2 : x < c
    all_goals
      go_enter Try.func56, Try.ntmps56
      go_wp2
      go_ret
      exact ⟨ret_b (by simp [oneB]; omega), rfl⟩
  · go_enter Try.func56, Try.ntmps56
    go_wp2
    go_ret
    exact ⟨ret_b (by simp [oneB]; omega), rfl⟩
theorem within_c (n lo hi : Int) (w : World) : Calls Try.prog 51 #[.int .i64 n, .int .i64 lo, .int .i64 hi] w fun e w' => e = .returned (.bool (inB n lo hi)) ∧ w = w' := by
  by_cases h1 : lo ≤ n
  · by_cases h2 : n ≤ hi
    all_goals
      go_enter Try.func51, Try.ntmps51
      go_wp2
      go_ret
      exact ⟨ret_b (by simp [inB]; omega), rfl⟩
  · go_enter Try.func51, Try.ntmps51
    go_wp2
    go_ret
    exact ⟨ret_b (by simp [inB]; omega), rfl⟩
set_option maxHeartbeats 1000000 in
theorem isJob_c (f b n : Int) (w : World) : Calls Try.prog 54 #[.agg #[.int .i64 f, .int .i64 b, .int .i64 n]] w fun e w' => e = .returned (.bool (jobB (f, b, n))) ∧ Below w.heap.size w w' := by
  go_enter Try.func54, Try.ntmps54
  go_wp2
  all_goals
    go_ret
    refine ⟨ret_b ?_, bl_alloc (Below.refl _ _) _⟩
    (simp [jobB, inB, *]) <;> (try omega)
set_option maxHeartbeats 1000000 in
theorem validate_c (A : Option Addr) (l : List T3) (cap : Nat) (w : World) (hlen : l.length ≤ 1000) (hr : Rd w A (cellsT l)) :
    Calls Try.prog 18 #[.slice A l.length cap] w fun e w' => e = .returned (.int .i64 (validE l)) ∧ Below w.heap.size w w' := by
  by_cases h8 : 8 < l.length
  · have h8' : (8 : Int) < (l.length : Int) := by omega
    go_enter Try.func18, Try.ntmps18
    go_wp2_with (fail)
    go_ret
    exact ⟨ret_i (by rw [validE, if_neg (by omega)]), Below.refl _ _⟩
  · have h8' : ¬ (8 : Int) < (l.length : Int) := by omega
    have HE : Hid (validE l = jobsE l) := by show _ = _; rw [validE, if_pos (by omega)]
    go_enter Try.func18, Try.ntmps18
    go_wp2_with (fail)
    go_loopw [10] (fun i wr => ∃ k : Nat, k ≤ l.length ∧ i = .int .i64 k ∧ Hid ((l.take k).all jobB = true) ∧ Below w.heap.size w wr) (fun i _ => l.length - (intOf i).toNat)
    case atStart => exact ⟨0, Nat.zero_le _, rfl, by simp [Hid], Below.refl _ _⟩
    case round =>
      obtain ⟨k, hk, rfl, hall, hb⟩ := hrel
      by_cases hlt : k < l.length
      · obtain ⟨b, o, rfl, hbl, c0, c1, c2⟩ := (hr.later hb).tri hlt
        have H1 := Lib.hid (@all_take jobB l k hlt)
        have H2 := Lib.hid (@all_no jobB l k hlt)
        generalize l.getD k t0 = g at c0 c1 c2 H1 H2
        obtain ⟨gk, gi, gh⟩ := g
        simp only [] at c0 c1 c2
        have HG := fun w => Lib.hid (isJob_c gk gi gh w)
        generalize jobB (gk, gi, gh) = v at HG H1 H2
        cases v with
        | true =>
          go_wp2_with (fail)
          refine (HG _).out.mono ?_
          rintro e w1 ⟨rfl, hb1⟩
          go_wp2_with (fail)
          go_roundw
          case rel => exact ⟨k + 1, by omega, by go_num, by show _ = _; rw [H1.out, hall.out]; rfl, bl_call (bl_alloc hb _) hb1⟩
          case measure => simp [intOf]; omega
        | false =>
          go_wp2_with (fail)
          refine (HG _).out.mono ?_
          rintro e w1 ⟨rfl, hb1⟩
          go_wp2_with (fail)
          go_ret
          exact ⟨ret_i (by rw [HE.out, jobsE, H2.out (by simp)]; rfl), bl_call (bl_alloc hb _) hb1⟩
      · obtain rfl : k = l.length := by omega
        go_wp2_with (fail)
        go_ret
        exact ⟨ret_i (by have h := hall.out; rw [List.take_length] at h; rw [HE.out, jobsE, h]; rfl), hb⟩

def strE (l : List T3) (a b : Int) : Int := if validE l = 0 then (if 0 ≤ a ∧ a < b ∧ b ≤ 60 then 0 else 1) else validE l
theorem strE_zero {l : List T3} {a b : Int} : strE l a b = 0 ↔ validE l = 0 ∧ 0 ≤ a ∧ a < b ∧ b ≤ 60 := by
  unfold strE
  by_cases h : validE l = 0
  · rw [if_pos h]
    by_cases h2 : 0 ≤ a ∧ a < b ∧ b ≤ 60
    · rw [if_pos h2]; exact ⟨fun _ => ⟨h, h2⟩, fun _ => rfl⟩
    · rw [if_neg h2]; exact ⟨fun x => (by cases x), fun x => absurd x.2 h2⟩
  · rw [if_neg h]; exact ⟨fun x => absurd x h, fun x => absurd x.1 h⟩
theorem strE_cases (l : List T3) (a b : Int) : (validE l ≠ 0 ∧ strE l a b = validE l) ∨ (validE l = 0 ∧ a < 0 ∧ strE l a b = 1) ∨ (validE l = 0 ∧ 0 ≤ a ∧ b ≤ a ∧ strE l a b = 1) ∨ (validE l = 0 ∧ 0 ≤ a ∧ a < b ∧ 60 < b ∧ strE l a b = 1) ∨ (validE l = 0 ∧ 0 ≤ a ∧ a < b ∧ b ≤ 60 ∧ strE l a b = 0) := by
  by_cases hv : validE l = 0
  · by_cases h1 : a < 0
    · exact .inr (.inl ⟨hv, h1, by rw [strE, if_pos hv, if_neg (by omega)]⟩)
    · by_cases h2 : b ≤ a
      · exact .inr (.inr (.inl ⟨hv, by omega, h2, by rw [strE, if_pos hv, if_neg (by omega)]⟩))
      · by_cases h3 : 60 < b
        · exact .inr (.inr (.inr (.inl ⟨hv, by omega, by omega, h3, by rw [strE, if_pos hv, if_neg (by omega)]⟩)))
        · exact .inr (.inr (.inr (.inr ⟨hv, by omega, by omega, by omega, by rw [strE, if_pos hv, if_pos (by omega)]⟩)))
  · exact .inl ⟨hv, by rw [strE, if_neg hv]⟩
set_option maxHeartbeats 1000000 in
theorem validateIn_c (A : Option Addr) (l : List T3) (cap : Nat) (a b : Int) (w : World) (hlen : l.length ≤ 1000) (hr : Rd w A (cellsT l)) :
    Calls Try.prog 62 #[.slice A l.length cap, .int .i64 a, .int .i64 b] w fun e w' => e = .returned (.int .i64 (strE l a b)) ∧ Below w.heap.size w w' := by
  have HV := Lib.hid (validate_c A l cap w hlen hr)
  rcases strE_cases l a b with ⟨hv, hE⟩ | ⟨hv, h1, hE⟩ | ⟨hv, h1, h2, hE⟩ | ⟨hv, h1, h2, h3, hE⟩ | ⟨hv, h1, h2, h3, hE⟩
  · have hv' : (validE l != 0) = true := by simpa using hv
    rw [hE]
    generalize validE l = v at *
    clear hE
    go_enter Try.func62, Try.ntmps62
    go_wp2_with (go_at_call 18; refine HV.out.mono ?_; rintro e w1 ⟨rfl, hb1⟩)
    go_ret
    exact ⟨rfl, hb1⟩
  all_goals
    rw [hv] at HV
    rw [hE]
    clear hv hE
    go_enter Try.func62, Try.ntmps62
    go_wp2_with (go_at_call 18; refine HV.out.mono ?_; rintro e w1 ⟨rfl, hb1⟩)
    go_ret
    exact ⟨rfl, hb1⟩

/- The specification's. -/
set_option maxHeartbeats 1000000 in
theorem right_c (f b n : Int) (w : World) : Calls Try.prog 55 #[.agg #[.int .i64 f, .int .i64 b, .int .i64 n]] w fun e w' => e = .returned (.bool (jobB (f, b, n))) ∧ Below w.heap.size w w' := by
  have HW := fun w => Lib.hid (within_c n 1 60 w)
  have hb0 := bl_alloc (Below.refl w.heap.size w) (.cells #[.int .i64 f, .int .i64 b, .int .i64 n] 40)
  have HV : Hid (jobB (f, b, n) = (decide (0 ≤ f) && decide (f < b) && decide (b ≤ 60) && inB n 1 60)) := rfl
  generalize inB n 1 60 = v at HW HV
  by_cases h1 : 0 ≤ f
  · by_cases h2 : f < b
    · by_cases h3 : b ≤ 60
      · have HR : Hid (jobB (f, b, n) = v) := by show _ = _; rw [HV.out]; simp [h1, h2, h3]
        go_enter Try.func55, Try.ntmps55
        go_wp2_with (go_at_call 51; refine (HW _).out.mono ?_; rintro e w1 ⟨rfl, rfl⟩)
        go_ret
        exact ⟨ret_b HR.out, hb0⟩
      · have HR : Hid (jobB (f, b, n) = false) := by show _ = _; rw [HV.out]; simp [h3]
        go_enter Try.func55, Try.ntmps55
        go_wp2_with (go_at_call 51; refine (HW _).out.mono ?_; rintro e w1 ⟨rfl, rfl⟩)
        go_ret
        exact ⟨ret_b HR.out, hb0⟩
    · have HR : Hid (jobB (f, b, n) = false) := by show _ = _; rw [HV.out]; simp [h2]
      go_enter Try.func55, Try.ntmps55
      go_wp2_with (go_at_call 51; refine (HW _).out.mono ?_; rintro e w1 ⟨rfl, rfl⟩)
      go_ret
      exact ⟨ret_b HR.out, hb0⟩
  · have HR : Hid (jobB (f, b, n) = false) := by show _ = _; rw [HV.out]; simp [h1]
    go_enter Try.func55, Try.ntmps55
    go_wp2_with (go_at_call 51; refine (HW _).out.mono ?_; rintro e w1 ⟨rfl, rfl⟩)
    go_ret
    exact ⟨ret_b HR.out, hb0⟩
set_option maxHeartbeats 1000000 in
theorem rvalidate_c (A : Option Addr) (l : List T3) (cap : Nat) (w : World) (hlen : l.length ≤ 1000) (hr : Rd w A (cellsT l)) :
    Calls Try.prog 19 #[.slice A l.length cap] w fun e w' => e = .returned (.int .i64 (validE l)) ∧ Below w.heap.size w w' := by
  by_cases h8 : 8 < l.length
  · have h8' : (8 : Int) < (l.length : Int) := by omega
    go_enter Try.func19, Try.ntmps19
    go_wp2_with (fail)
    go_ret
    exact ⟨ret_i (by rw [validE, if_neg (by omega)]), Below.refl _ _⟩
  · have h8' : ¬ (8 : Int) < (l.length : Int) := by omega
    have HE : Hid (validE l = jobsE l) := by show _ = _; rw [validE, if_pos (by omega)]
    go_enter Try.func19, Try.ntmps19
    go_wp2_with (fail)
    go_loopg [3] l.length (fun gk iv wr => ∃ k : Nat, k + gk = l.length ∧ iv = .int .i64 (k : Int) ∧ Hid ((l.take k).all jobB = true) ∧ Below w.heap.size w wr)
    case atStart => exact ⟨0, by omega, rfl, by simp [Hid], Below.refl _ _⟩
    case round =>
      obtain ⟨k, hk, rfl, hall, hb⟩ := hrel
      rcases gk with _ | gi
      · obtain rfl : k = l.length := by omega
        have HF : Hid (l.all jobB = true) := by have h := hall.out; rwa [List.take_length] at h
        go_wp2_with (fail)
        go_ret
        exact ⟨ret_i (by rw [HE.out, jobsE, HF.out]; rfl), hb⟩
      · have hlt : k < l.length := by omega
        have hlt' : (k : Int) < (l.length : Int) := by omega
        obtain ⟨b, o, rfl, hbl, c0, c1, c2⟩ := (hr.later hb).tri hlt
        have H1 := Lib.hid (@all_take jobB l k hlt)
        have H2 := Lib.hid (@all_no jobB l k hlt)
        generalize l.getD k t0 = g at c0 c1 c2 H1 H2
        obtain ⟨gk, gi', gh⟩ := g
        simp only [] at c0 c1 c2
        have HG := fun w => Lib.hid (right_c gk gi' gh w)
        generalize jobB (gk, gi', gh) = v at HG H1 H2
        cases v with
        | true =>
          have H1' := H1.out
          rw [hall.out, Bool.true_and] at H1'
          have HN := Lib.hid H1'
          clear H1'
          go_wp2_with (fail)
          refine (HG _).out.mono ?_
          rintro e w1 ⟨rfl, hb1⟩
          go_wp2_with (fail)
          go_roundg gi
          case rel => exact ⟨k + 1, by omega, by go_num, HN, bl_call hb hb1⟩
          case measure => omega
        | false =>
          have HN : Hid (l.all jobB = false) := H2.out (by simp)
          go_wp2_with (fail)
          refine (HG _).out.mono ?_
          rintro e w1 ⟨rfl, hb1⟩
          go_wp2_with (fail)
          go_ret
          exact ⟨ret_i (by rw [HE.out, jobsE, HN.out]; rfl), bl_call hb hb1⟩
set_option maxHeartbeats 1000000 in
theorem rstretch_c (A : Option Addr) (l : List T3) (cap : Nat) (a b : Int) (w : World) (hlen : l.length ≤ 1000) (hr : Rd w A (cellsT l)) :
    Calls Try.prog 64 #[.slice A l.length cap, .int .i64 a, .int .i64 b] w fun e w' => e = .returned (.int .i64 (strE l a b)) ∧ Below w.heap.size w w' := by
  have HV := Lib.hid (rvalidate_c A l cap w hlen hr)
  by_cases hv : validE l = 0
  · by_cases h1 : a < 0
    · have hE : strE l a b = 1 := by rw [strE, if_pos hv, if_neg (by omega)]
      rw [hv] at HV
      rw [hE]
      clear hv hE
      go_enter Try.func64, Try.ntmps64
      go_wp2_with (go_at_call 19; refine HV.out.mono ?_; rintro e w1 ⟨rfl, hb1⟩)
      go_ret
      exact ⟨rfl, hb1⟩
    · by_cases h2 : 60 < b
      · have hE : strE l a b = 1 := by rw [strE, if_pos hv, if_neg (by omega)]
        rw [hv] at HV
        rw [hE]
        clear hv hE
        go_enter Try.func64, Try.ntmps64
        go_wp2_with (go_at_call 19; refine HV.out.mono ?_; rintro e w1 ⟨rfl, hb1⟩)
        go_ret
        exact ⟨rfl, hb1⟩
      · by_cases h3 : b ≤ a
        · have hE : strE l a b = 1 := by rw [strE, if_pos hv, if_neg (by omega)]
          rw [hv] at HV
          rw [hE]
          clear hv hE
          go_enter Try.func64, Try.ntmps64
          go_wp2_with (go_at_call 19; refine HV.out.mono ?_; rintro e w1 ⟨rfl, hb1⟩)
          go_ret
          exact ⟨rfl, hb1⟩
        · have hE : strE l a b = 0 := by rw [strE, if_pos hv, if_pos (by omega)]
          rw [hv] at HV
          rw [hE]
          clear hv hE
          go_enter Try.func64, Try.ntmps64
          go_wp2_with (go_at_call 19; refine HV.out.mono ?_; rintro e w1 ⟨rfl, hb1⟩)
          go_ret
          exact ⟨rfl, hb1⟩
  · have hE : strE l a b = validE l := by rw [strE, if_neg hv]
    have hv' : (validE l != 0) = true := by simpa using hv
    rw [hE]
    generalize validE l = v at *
    clear hE
    go_enter Try.func64, Try.ntmps64
    go_wp2_with (go_at_call 19; refine HV.out.mono ?_; rintro e w1 ⟨rfl, hb1⟩)
    go_ret
    exact ⟨rfl, hb1⟩
end Go.Proofs.Ytiffgaelndajpaa
