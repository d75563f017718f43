/- Sets of modes, and the arguments of a search. -/
import Derived.Test.YtpjdojjdhbmbjaaVal
import Derived.WalkSmall
namespace Go.Proofs.Ytpjdojjdhbmbjaa
open Go.RowKit

/-- Whether the number at i may stand there in a set of numbers from 0 to n. -/
def setOk (l : List Int) (n : Int) (i : Nat) : Bool := inB (l.getD i 0) 0 n && (i == 0 || decide (l.getD (i - 1) 0 < l.getD i 0))
def isSetL (l : List Int) (n : Int) : Bool := (List.range l.length).all (setOk l n)
def areModesL (l : List Int) : Bool := decide (0 < l.length) && isSetL l 3
theorem set_succ (l : List Int) (n : Int) (k : Nat) (h : (List.range k).all (setOk l n) = true) (hk : setOk l n k = true) : (List.range (k + 1)).all (setOk l n) = true := by
  rw [List.range_succ, List.all_append, h]; simp [hk]
theorem set_no (l : List Int) (n : Int) (k : Nat) (hlt : k < l.length) (hk : setOk l n k = false) : isSetL l n = false := by
  unfold isSetL
  rw [List.all_eq_false]
  exact ⟨k, by simpa using hlt, by simp [hk]⟩
theorem set_no' (l : List Int) (k : Nat) (hlt : k < l.length) (hk : setOk l 3 k = false) : areModesL l = false := by
  simp [areModesL, set_no l 3 k hlt hk]
theorem ok_range {l : List Int} {n : Int} {k : Nat} (h : inB (l.getD k 0) 0 n = false) : setOk l n k = false := by simp only [setOk, h, Bool.false_and]
theorem ok_zero {l : List Int} {n : Int} (h : inB (l.getD 0 0) 0 n = true) : setOk l n 0 = true := by simp only [setOk, h, Bool.true_and]; rfl
theorem ok_up {l : List Int} {n : Int} {k : Nat} (h : inB (l.getD (k + 1) 0) 0 n = true) (hu : l.getD k 0 < l.getD (k + 1) 0) : setOk l n (k + 1) = true := by simp only [setOk, h, Nat.add_sub_cancel, hu]; simp
theorem ok_down {l : List Int} {n : Int} {k : Nat} (hu : l.getD (k + 1) 0 ≤ l.getD k 0) : setOk l n (k + 1) = false := by
  have : ¬ l.getD k 0 < l.getD (k + 1) 0 := by omega
  simp only [setOk, Nat.add_sub_cancel, this]; simp

set_option maxHeartbeats 1000000 in
theorem areModes_c (A : Option Addr) (l : List Int) (cap : Nat) (w : World) (hlen : l.length ≤ 9223372036854775806) (hr : Rd w A (ints l)) :
    Calls Try.prog 75 #[.slice A l.length cap] w fun e w' => e = .returned (.bool (areModesL l)) ∧ w = w' := by
  go_enter Try.func75, Try.ntmps75
  go_wp2
  go_loop [7] (fun i => ∃ k : Nat, k ≤ l.length ∧ i = .int .i64 k ∧ Hid ((List.range k).all (setOk l 3) = true)) (fun i => l.length - (intOf i).toNat)
  case atStart => exact ⟨0, Nat.zero_le _, rfl, by simp [Hid]⟩
  case round =>
    obtain ⟨k, hk, rfl, hs⟩ := hrel
    by_cases hlt : k < l.length
    · obtain ⟨b, o, rfl, _, hc⟩ := hr.at_ (k := k) (by simpa using hlt)
      have hck := hc k _ (ints_get hlt)
      have HN := Lib.hid (set_no' l k hlt)
      have HS := Lib.hid (set_succ l 3 k hs.out)
      cases k with
      | zero =>
        clear hc
        rw [Nat.add_zero] at hck
        have HR := Lib.hid (@ok_range l 3 0)
        have HZ := Lib.hid (@ok_zero l 3)
        generalize l.getD 0 0 = f at hck HR HZ
        by_cases hB : inB f 0 3 = true
        · go_wp2_with (go_at_call 86; refine (isMode_c _ _).mono ?_; rintro e w' ⟨rfl, rfl⟩)
          go_round
          case rel => exact ⟨1, by omega, by go_num, HS.out (HZ.out hB)⟩
          case measure => simp [intOf]; omega
        · have hB' : inB f 0 3 = false := by simpa using hB
          clear hB
          go_wp2_with (go_at_call 86; refine (isMode_c _ _).mono ?_; rintro e w' ⟨rfl, rfl⟩)
          go_ret
          exact ⟨ret_b (HN.out (HR.out hB')), rfl⟩
      | succ j =>
        have hcj := hc j _ (ints_get (by omega))
        clear hc
        have HR := Lib.hid (@ok_range l 3 (j + 1))
        have HU := Lib.hid (@ok_up l 3 j)
        have HD := Lib.hid (@ok_down l 3 j)
        generalize l.getD (j + 1) 0 = f at hck HR HU HD
        generalize l.getD j 0 = g at hcj HU HD
        by_cases hB : inB f 0 3 = true
        · by_cases hfg : f ≤ g
          · go_wp2_with (go_at_call 86; refine (isMode_c _ _).mono ?_; rintro e w' ⟨rfl, rfl⟩)
            go_ret
            exact ⟨ret_b (HN.out (HD.out hfg)), rfl⟩
          · go_wp2_with (go_at_call 86; refine (isMode_c _ _).mono ?_; rintro e w' ⟨rfl, rfl⟩)
            go_round
            case rel => exact ⟨j + 2, by omega, by go_num, HS.out (HU.out hB (by omega))⟩
            case measure => simp [intOf]; omega
        · have hB' : inB f 0 3 = false := by simpa using hB
          clear hB
          go_wp2_with (go_at_call 86; refine (isMode_c _ _).mono ?_; rintro e w' ⟨rfl, rfl⟩)
          go_ret
          exact ⟨ret_b (HN.out (HR.out hB')), rfl⟩
    · obtain rfl : k = l.length := by omega
      by_cases h0 : 0 < l.length
      · go_wp2
        go_ret
        exact ⟨ret_b (by have h := hs.out; simp only [areModesL, isSetL, h, h0]; rfl), rfl⟩
      · go_wp2
        go_ret
        exact ⟨ret_b (by have h := hs.out; simp only [areModesL, isSetL, h, h0]; rfl), rfl⟩

set_option maxHeartbeats 2000000 in
theorem isSet_c (A : Option Addr) (l : List Int) (cap : Nat) (n : Int) (w : World) (hlen : l.length ≤ 9223372036854775806) (hr : Rd w A (ints l)) :
    Calls Try.prog 94 #[.slice A l.length cap, .int .i64 (n + 1)] w fun e w' => e = .returned (.bool (isSetL l n)) ∧ Below w.heap.size w w' := by
  go_enter Try.func94, Try.ntmps94
  go_wp2
  go_loopw [5] (fun i wr => ∃ k : Nat, k ≤ l.length ∧ i = .int .i64 k ∧ Hid ((List.range k).all (setOk l n) = true) ∧ Below w.heap.size w wr) (fun i _ => l.length - (intOf i).toNat)
  case atStart => exact ⟨0, Nat.zero_le _, rfl, by simp [Hid], Below.refl _ _⟩
  case round =>
    obtain ⟨k, hk, rfl, hs, hb⟩ := hrel
    by_cases hlt : k < l.length
    · obtain ⟨b, o, rfl, _, hc⟩ := (hr.later hb).at_ (k := k) (by simpa using hlt)
      have hck := hc k _ (ints_get hlt)
      have HN := Lib.hid (set_no l n k hlt)
      have HS := Lib.hid (set_succ l n k hs.out)
      have HR := Lib.hid (@ok_range l n k)
      have hkl : ((k : Int) < (l.length : Int)) := by omega
      have hk0 : (0 : Int) ≤ (k : Int) := by omega
      by_cases h0 : l.getD k 0 < 0
      · have hR := HR.out (by simp only [inB, Bool.and_eq_false_iff, decide_eq_false_iff_not]; left; omega)
        have hN := HN.out hR
        clear hR HR HS HN hc
        generalize l.getD k 0 = f at hck h0
        have HN := Lib.hid hN
        clear hN
        go_wp2
        go_quiet (fail)
        go_wp2
        go_ret
        exact ⟨ret_b HN.out, below_drewN hb _⟩
      · have h0' : decide (l.getD k 0 < 0) = false := by simpa using h0
        by_cases h1 : n + 1 ≤ l.getD k 0
        · have hR := HR.out (by simp only [inB, Bool.and_eq_false_iff, decide_eq_false_iff_not]; right; omega)
          have hN := HN.out hR
          clear hR HR HS HN hc
          generalize l.getD k 0 = f at hck h0 h0' h1
          have HN := Lib.hid hN
          clear hN
          go_wp2
          go_quiet (fail)
          go_wp2
          go_ret
          exact ⟨ret_b HN.out, below_drewN hb _⟩
        · have h1' : decide (n + 1 ≤ l.getD k 0) = false := by simpa using h1
          have hin : inB (l.getD k 0) 0 n = true := by simp [inB] at h0 h1 ⊢; omega
          cases k with
          | zero =>
            rw [Nat.add_zero] at hck
            have HZ := Lib.hid (HS.out (ok_zero hin))
            clear hin HS HN HR hc
            generalize l.getD 0 0 = f at hck h0 h0' h1 h1'
            go_wp2
            go_quiet (fail)
            go_wp2
            go_roundw
            case rel => exact ⟨1, by omega, by go_num, HZ.out, below_drewN hb _⟩
            case measure => simp [intOf]; omega
          | succ j =>
            have hcj := hc j _ (ints_get (by omega))
            have HU := Lib.hid (@ok_up l n j hin)
            have HD := Lib.hid (@ok_down l n j)
            clear hc hin HR
            generalize l.getD (j + 1) 0 = f at hck HU HD h0 h0' h1 h1'
            generalize l.getD j 0 = g at hcj HU HD
            have hj0 : (0 : Int) < ((j + 1 : Nat) : Int) := by omega
            by_cases hfg : f ≤ g
            · go_wp2
              go_quiet (fail)
              go_wp2
              go_ret
              exact ⟨ret_b (HN.out (HD.out hfg)), below_drewN hb _⟩
            · have hfg' : decide (f ≤ g) = false := by simpa using hfg
              go_wp2
              go_quiet (fail)
              go_wp2
              go_roundw
              case rel => exact ⟨j + 2, by omega, by go_num, HS.out (HU.out (by omega)), below_drewN hb _⟩
              case measure => simp [intOf]; omega
    · obtain rfl : k = l.length := by omega
      go_wp2
      go_ret
      exact ⟨ret_b hs.out, hb⟩

theorem rareModes_c (A : Option Addr) (l : List Int) (cap : Nat) (w : World) (hlen : l.length ≤ 9223372036854775806) (hr : Rd w A (ints l)) :
    Calls Try.prog 77 #[.slice A l.length cap] w fun e w' => e = .returned (.bool (areModesL l)) ∧ Below w.heap.size w w' := by
  have H1 := Lib.hid (isSet_c A l cap 3 w hlen hr)
  by_cases h0 : 0 < l.length
  · go_enter Try.func77, Try.ntmps77
    go_wp2_with (fail)
    refine H1.out.mono ?_
    rintro e w' ⟨rfl, hb⟩
    go_wp2
    go_ret
    exact ⟨ret_b (by simp [areModesL]; omega), hb⟩
  · go_enter Try.func77, Try.ntmps77
    go_wp2
    go_ret
    exact ⟨ret_b (by simp [areModesL]; omega), Below.refl _ _⟩

/-- The error of the arguments of a search. -/
def searchE (l : List Int) (n f : Int) : Int := if areModesL l && inB n 0 6 && inB f 1 2 then 0 else 1

theorem validateSearch_c (A : Option Addr) (l : List Int) (cap : Nat) (n f : Int) (w : World) (hlen : l.length ≤ 9223372036854775806) (hr : Rd w A (ints l)) :
    Calls Try.prog 79 #[.slice A l.length cap, .int .i64 n, .int .i64 f] w fun e w' => e = .returned (.int .i64 (searchE l n f)) ∧ w = w' := by
  have h1 := areModes_c A l cap w hlen hr
  have HE : Hid (searchE l n f = if areModesL l && inB n 0 6 && inB f 1 2 then 0 else 1) := rfl
  generalize areModesL l = m at h1 HE
  have H1 := Lib.hid h1
  clear h1
  cases m with
  | false =>
    go_enter Try.func79, Try.ntmps79
    go_wp2_with (go_at_call 75; refine H1.out.mono ?_; rintro e w' ⟨rfl, rfl⟩)
    go_ret
    exact ⟨ret_i (by rw [HE.out]; simp), rfl⟩
  | true =>
    by_cases ha : n < 0
    · go_enter Try.func79, Try.ntmps79
      go_wp2_with (go_at_call 75; refine H1.out.mono ?_; rintro e w' ⟨rfl, rfl⟩)
      go_ret
      exact ⟨ret_i (by rw [HE.out]; simp [inB]; omega), rfl⟩
    · by_cases hb : 6 < n
      · go_enter Try.func79, Try.ntmps79
        go_wp2_with (go_at_call 75; refine H1.out.mono ?_; rintro e w' ⟨rfl, rfl⟩)
        go_ret
        exact ⟨ret_i (by rw [HE.out]; simp [inB]; omega), rfl⟩
      · by_cases hc : f < 1
        · go_enter Try.func79, Try.ntmps79
          go_wp2_with (go_at_call 75; refine H1.out.mono ?_; rintro e w' ⟨rfl, rfl⟩)
          go_ret
          exact ⟨ret_i (by rw [HE.out]; simp [inB]; omega), rfl⟩
        · by_cases hd : 2 < f
          · go_enter Try.func79, Try.ntmps79
            go_wp2_with (go_at_call 75; refine H1.out.mono ?_; rintro e w' ⟨rfl, rfl⟩)
            go_ret
            exact ⟨ret_i (by rw [HE.out]; simp [inB]; omega), rfl⟩
          · go_enter Try.func79, Try.ntmps79
            go_wp2_with (go_at_call 75; refine H1.out.mono ?_; rintro e w' ⟨rfl, rfl⟩)
            go_ret
            exact ⟨ret_i (by rw [HE.out]; simp [inB]; omega), rfl⟩
end Go.Proofs.Ytpjdojjdhbmbjaa
