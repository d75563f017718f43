/- What the functions answer that examine their arguments. -/
import Derived.Test.YtpjdojjdhbmbjaaLeaf
namespace Go.Proofs.Ytpjdojjdhbmbjaa
open Go.RowKit

theorem all_take_succ (f : Int → Bool) {p : List Int} {k : Nat} (h : k < p.length) : (p.take (k + 1)).all f = ((p.take k).all f && f (p.getD k 0)) := by
  rw [List.take_succ_eq_append_getElem h, List.all_append]; simp [h]
theorem all_no (f : Int → Bool) {p : List Int} {k : Nat} (h : k < p.length) (hf : f (p.getD k 0) = false) : p.all f = false := by
  rw [List.all_eq_false]
  exact ⟨p[k], List.getElem_mem h, by simp [h] at hf; simp [hf]⟩

def forces (p : List Int) : Bool := p.all fun f => inB f (-99) 99
/-- The error of a pulse. -/
def validE (p : List Int) : Int := if p.length ≤ 12 then (if forces p then 0 else 1) else 3

theorem validE_big {p : List Int} (h : ¬ p.length ≤ 12) : validE p = 3 := by simp [validE, h]

set_option maxHeartbeats 400000 in
theorem validate_c (A : Option Addr) (p : List Int) (cap : Nat) (w : World) (hr : Rd w A (ints p)) :
    Calls Try.prog 23 #[.slice A p.length cap] w fun e w' => e = .returned (.int .i64 (validE p)) ∧ w = w' := by
  by_cases hl : p.length ≤ 12
  · go_enter Try.func23, Try.ntmps23
    go_wp2
    go_loop [10] (fun i => ∃ k : Nat, k ≤ p.length ∧ i = .int .i64 k ∧ Hid ((p.take k).all (fun f => inB f (-99) 99) = true)) (fun i => p.length - (intOf i).toNat)
    case atStart => exact ⟨0, Nat.zero_le _, rfl, by simp [Hid]⟩
    case round =>
      obtain ⟨k, hk, rfl, hall⟩ := hrel
      by_cases hlt : k < p.length
      · obtain ⟨b, o, rfl, hb, hc⟩ := hr.at_ (k := k) (by simpa using hlt)
        have hck := hc k _ (ints_get hlt)
        clear hc
        have H1 := Lib.hid (all_take_succ (fun f => inB f (-99) 99) hlt)
        have H2 := Lib.hid (@all_no (fun f => inB f (-99) 99) p k hlt)
        generalize p.getD k 0 = f at hck H1 H2
        by_cases hB : inB f (-99) 99 = true
        · go_wp2_with (go_at_call 61; refine (isForce_c _ _).mono ?_; rintro e w' ⟨rfl, rfl⟩)
          go_round
          case rel => exact ⟨k + 1, by omega, by go_num, by show _ = _; rw [H1.out, hall.out, hB]; rfl⟩
          case measure => simp [intOf]; omega
        · have hB' : inB f (-99) 99 = false := by simpa using hB
          clear hB
          go_wp2_with (go_at_call 61; refine (isForce_c _ _).mono ?_; rintro e w' ⟨rfl, rfl⟩)
          go_ret
          exact ⟨by simp [validE, hl, forces, H2.out hB'], rfl⟩
      · obtain rfl : k = p.length := by omega
        go_wp2
        go_ret
        exact ⟨by have := hall.out; rw [List.take_length] at this; simp [validE, hl, forces, this], rfl⟩
  · go_enter Try.func23, Try.ntmps23
    go_wp2
    go_ret
    exact ⟨by simp [validE_big hl], rfl⟩

set_option maxHeartbeats 400000 in
theorem rvalidate_c (A : Option Addr) (p : List Int) (cap : Nat) (w : World) (hr : Rd w A (ints p)) :
    Calls Try.prog 24 #[.slice A p.length cap] w fun e w' => e = .returned (.int .i64 (validE p)) ∧ w = w' := by
  by_cases hl : p.length ≤ 12
  · go_enter Try.func24, Try.ntmps24
    go_wp2
    go_loop [3] (fun i => ∃ k : Nat, k ≤ p.length ∧ i = .int .i64 k ∧ Hid ((p.take k).all (fun f => inB f (-99) 99) = true)) (fun i => p.length - (intOf i).toNat)
    case atStart => exact ⟨0, Nat.zero_le _, rfl, by simp [Hid]⟩
    case round =>
      obtain ⟨k, hk, rfl, hall⟩ := hrel
      by_cases hlt : k < p.length
      · obtain ⟨b, o, rfl, hb, hc⟩ := hr.at_ (k := k) (by simpa using hlt)
        have hck := hc k _ (ints_get hlt)
        clear hc
        have H1 := Lib.hid (all_take_succ (fun f => inB f (-99) 99) hlt)
        have H2 := Lib.hid (@all_no (fun f => inB f (-99) 99) p k hlt)
        generalize p.getD k 0 = f at hck H1 H2
        by_cases hB : inB f (-99) 99 = true
        · go_wp2_with (go_at_call 36; refine (within_c _ _ _ _).mono ?_; rintro e w' ⟨rfl, rfl⟩)
          go_round
          case rel => exact ⟨k + 1, by omega, by go_num, by show _ = _; rw [H1.out, hall.out, hB]; rfl⟩
          case measure => simp [intOf]; omega
        · have hB' : inB f (-99) 99 = false := by simpa using hB
          clear hB
          go_wp2_with (go_at_call 36; refine (within_c _ _ _ _).mono ?_; rintro e w' ⟨rfl, rfl⟩)
          go_ret
          exact ⟨by simp [validE, hl, forces, H2.out hB'], rfl⟩
      · obtain rfl : k = p.length := by omega
        go_wp2
        go_ret
        exact ⟨by have := hall.out; rw [List.take_length] at this; simp [validE, hl, forces, this], rfl⟩
  · go_enter Try.func24, Try.ntmps24
    go_wp2
    go_ret
    exact ⟨by simp [validE_big hl], rfl⟩

/-- The error of a pulse and a mode. -/
def inE (p : List Int) (m : Int) : Int := if validE p = 0 then (if inB m 0 3 then 0 else 1) else validE p

theorem validateIn_c (A : Option Addr) (p : List Int) (cap : Nat) (m : Int) (w : World) (hr : Rd w A (ints p)) :
    Calls Try.prog 56 #[.slice A p.length cap, .int .i64 m] w fun e w' => e = .returned (.int .i64 (inE p m)) ∧ w = w' := by
  have h1 := validate_c A p cap w hr
  have HE : Hid (inE p m = if validE p = 0 then (if inB m 0 3 then 0 else 1) else validE p) := rfl
  generalize validE p = v at h1 HE
  have H1 := Lib.hid h1
  clear h1
  by_cases hv : (v != 0) = true
  · go_enter Try.func56, Try.ntmps56
    go_wp2_with (first | (go_at_call 23; refine H1.out.mono ?_; rintro e w' ⟨rfl, rfl⟩) | (go_at_call 86; refine (isMode_c _ _).mono ?_; rintro e w' ⟨rfl, rfl⟩))
    go_ret
    exact ⟨ret_i (by rw [HE.out, if_neg (by simpa using hv)]), rfl⟩
  · have hv' : (v != 0) = false := by simpa using hv
    clear hv
    by_cases hB : inB m 0 3 = true
    · go_enter Try.func56, Try.ntmps56
      go_wp2_with (first | (go_at_call 23; refine H1.out.mono ?_; rintro e w' ⟨rfl, rfl⟩) | (go_at_call 86; refine (isMode_c _ _).mono ?_; rintro e w' ⟨rfl, rfl⟩))
      go_ret
      exact ⟨ret_i (by rw [HE.out, if_pos (by simpa using hv'), if_pos hB]), rfl⟩
    · have hB' : inB m 0 3 = false := by simpa using hB
      clear hB
      go_enter Try.func56, Try.ntmps56
      go_wp2_with (first | (go_at_call 23; refine H1.out.mono ?_; rintro e w' ⟨rfl, rfl⟩) | (go_at_call 86; refine (isMode_c _ _).mono ?_; rintro e w' ⟨rfl, rfl⟩))
      go_ret
      exact ⟨ret_i (by rw [HE.out, if_pos (by simpa using hv'), if_neg (by simp [hB'])]), rfl⟩

theorem moded_c (A : Option Addr) (p : List Int) (cap : Nat) (m : Int) (w : World) (hr : Rd w A (ints p)) :
    Calls Try.prog 58 #[.slice A p.length cap, .int .i64 m] w fun e w' => e = .returned (.int .i64 (inE p m)) ∧ w = w' := by
  have h1 := rvalidate_c A p cap w hr
  have HE : Hid (inE p m = if validE p = 0 then (if inB m 0 3 then 0 else 1) else validE p) := rfl
  generalize validE p = v at h1 HE
  have H1 := Lib.hid h1
  clear h1
  by_cases hv : (v != 0) = true
  · go_enter Try.func58, Try.ntmps58
    go_wp2_with (first | (go_at_call 24; refine H1.out.mono ?_; rintro e w' ⟨rfl, rfl⟩) | (go_at_call 36; refine (within_c _ _ _ _).mono ?_; rintro e w' ⟨rfl, rfl⟩))
    go_ret
    exact ⟨ret_i (by rw [HE.out, if_neg (by simpa using hv)]), rfl⟩
  · have hv' : (v != 0) = false := by simpa using hv
    clear hv
    by_cases hB : inB m 0 3 = true
    · go_enter Try.func58, Try.ntmps58
      go_wp2_with (first | (go_at_call 24; refine H1.out.mono ?_; rintro e w' ⟨rfl, rfl⟩) | (go_at_call 36; refine (within_c _ _ _ _).mono ?_; rintro e w' ⟨rfl, rfl⟩))
      go_ret
      exact ⟨ret_i (by rw [HE.out, if_pos (by simpa using hv'), if_pos hB]), rfl⟩
    · have hB' : inB m 0 3 = false := by simpa using hB
      clear hB
      go_enter Try.func58, Try.ntmps58
      go_wp2_with (first | (go_at_call 24; refine H1.out.mono ?_; rintro e w' ⟨rfl, rfl⟩) | (go_at_call 36; refine (within_c _ _ _ _).mono ?_; rintro e w' ⟨rfl, rfl⟩))
      go_ret
      exact ⟨ret_i (by rw [HE.out, if_pos (by simpa using hv'), if_neg (by simp [hB'])]), rfl⟩

/-- The error of two pulses. -/
def bothE (p q : List Int) : Int := if validE p = 0 then validE q else validE p

theorem validateBoth_c (A B : Option Addr) (p q : List Int) (cap cap' : Nat) (w : World) (hr : Rd w A (ints p)) (hq : Rd w B (ints q)) :
    Calls Try.prog 73 #[.slice A p.length cap, .slice B q.length cap'] w fun e w' => e = .returned (.int .i64 (bothE p q)) ∧ w = w' := by
  have H1 := Lib.hid (validate_c A p cap w hr)
  have H2 := Lib.hid (validate_c B q cap' w hq)
  have HE : Hid (bothE p q = if validE p = 0 then validE q else validE p) := rfl
  generalize validE p = v at H1 HE
  generalize validE q = u at H2 HE
  by_cases hv : (v != 0) = true
  · go_enter Try.func73, Try.ntmps73
    go_wp2_with (fail)
    refine H1.out.mono ?_
    rintro e w' ⟨rfl, rfl⟩
    go_wp2_with (fail)
    go_ret
    exact ⟨ret_i (by rw [HE.out, if_neg (by simpa using hv)]), rfl⟩
  · have hv' : (v != 0) = false := by simpa using hv
    clear hv
    go_enter Try.func73, Try.ntmps73
    go_wp2_with (fail)
    refine H1.out.mono ?_
    rintro e w' ⟨rfl, rfl⟩
    go_wp2_with (fail)
    refine H2.out.mono ?_
    rintro e w' ⟨rfl, rfl⟩
    go_wp2_with (fail)
    go_ret
    exact ⟨ret_i (by rw [HE.out, if_pos (by simpa using hv')]), rfl⟩

theorem rboth_c (A B : Option Addr) (p q : List Int) (cap cap' : Nat) (w : World) (hr : Rd w A (ints p)) (hq : Rd w B (ints q)) :
    Calls Try.prog 74 #[.slice A p.length cap, .slice B q.length cap'] w fun e w' => e = .returned (.int .i64 (bothE p q)) ∧ w = w' := by
  have H1 := Lib.hid (rvalidate_c A p cap w hr)
  have H2 := Lib.hid (rvalidate_c B q cap' w hq)
  have HE : Hid (bothE p q = if validE p = 0 then validE q else validE p) := rfl
  generalize validE p = v at H1 HE
  generalize validE q = u at H2 HE
  by_cases hv : (v != 0) = true
  · go_enter Try.func74, Try.ntmps74
    go_wp2_with (fail)
    refine H1.out.mono ?_
    rintro e w' ⟨rfl, rfl⟩
    go_wp2_with (fail)
    go_ret
    exact ⟨ret_i (by rw [HE.out, if_neg (by simpa using hv)]), rfl⟩
  · have hv' : (v != 0) = false := by simpa using hv
    clear hv
    go_enter Try.func74, Try.ntmps74
    go_wp2_with (fail)
    refine H1.out.mono ?_
    rintro e w' ⟨rfl, rfl⟩
    go_wp2_with (fail)
    refine H2.out.mono ?_
    rintro e w' ⟨rfl, rfl⟩
    go_wp2_with (fail)
    go_ret
    exact ⟨ret_i (by rw [HE.out, if_pos (by simpa using hv')]), rfl⟩

theorem long_c (A : Option Addr) (n cap : Nat) (w : World) :
    Calls Try.prog 17 #[.slice A n cap] w fun e w' => e = .returned (.bool (decide (100 < n))) ∧ w = w' := by
  by_cases h : 100 < n
  · go_enter Try.func17, Try.ntmps17
    go_wp2
    go_ret
    exact ⟨by simp; omega, rfl⟩
  · go_enter Try.func17, Try.ntmps17
    go_wp2
    go_ret
    exact ⟨by simp; omega, rfl⟩
end Go.Proofs.Ytpjdojjdhbmbjaa
