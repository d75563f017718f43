/- Whether a pulse has a force that is not 0. -/
import Derived.Test.YtpjdojjdhbmbjaaVal
namespace Go.Proofs.Ytpjdojjdhbmbjaa
open Go.RowKit

def pushB (x : List Int) : Bool := x.any (fun f => f != 0)
theorem any_take_no {p : List Int} {k : Nat} (h : k < p.length) (hn : (p.take k).any (fun f => f != 0) = false) (hf : (p.getD k 0 != 0) = false) : (p.take (k + 1)).any (fun f => f != 0) = false := by
  rw [List.take_succ_eq_append_getElem h, List.any_append, hn]
  simp [h] at hf
  simp [hf]
theorem any_take_yes {p : List Int} {k : Nat} (h : k < p.length) (hf : (p.getD k 0 != 0) = true) : pushB p = true := by
  simp [h] at hf
  rw [pushB, List.any_eq_true]
  exact ⟨p[k], List.getElem_mem h, by simpa using hf⟩

theorem pushes1_c (x : Int) (w : World) : Calls Try.prog 100 #[.int .i64 x] w fun e w' => e = .returned (.bool (x != 0)) ∧ w = w' := by
  go_enter Try.func100, Try.ntmps100
  go_wp2
  go_ret
  exact ⟨rfl, rfl⟩

theorem index_c (A : Option Addr) (p : List Int) (cap : Nat) (w : World) (hlen : p.length ≤ 9223372036854775806) (hr : Rd w A (ints p)) :
    Calls Try.prog 115 #[.slice A p.length cap, .func (.func 100) #[] #[]] w fun e w' => ∃ i : Int, e = .returned (.int .i64 i) ∧ decide (0 ≤ i) = pushB p ∧ w = w' := by
  go_enter Try.func115, Try.ntmps115
  go_wp2
  go_loop [8] (fun i => ∃ k : Nat, k ≤ p.length ∧ i = .int .i64 k ∧ Hid ((p.take k).any (fun f => f != 0) = false)) (fun i => p.length - (intOf i).toNat)
  case atStart => exact ⟨0, Nat.zero_le _, rfl, by simp [Hid]⟩
  case round =>
    obtain ⟨k, hk, rfl, hs⟩ := hrel
    by_cases hlt : k < p.length
    · obtain ⟨b, o, rfl, _, hc⟩ := hr.at_ (k := k) (by simpa using hlt)
      have hck := hc k _ (ints_get hlt)
      clear hc
      have H1 := Lib.hid (any_take_no hlt hs.out)
      have H2 := Lib.hid (@any_take_yes p k hlt)
      generalize p.getD k 0 = f at hck H1 H2
      by_cases hf : (f != 0) = true
      · go_wp2_with (go_at_call 100; refine (pushes1_c _ _).mono ?_; rintro e w' ⟨rfl, rfl⟩)
        go_ret
        exact ⟨k, rfl, by rw [H2.out hf]; simp, rfl⟩
      · have hf' : (f != 0) = false := by simpa using hf
        clear hf
        go_wp2_with (go_at_call 100; refine (pushes1_c _ _).mono ?_; rintro e w' ⟨rfl, rfl⟩)
        go_round
        case rel => exact ⟨k + 1, by omega, by go_num, H1.out hf'⟩
        case measure => simp [intOf]; omega
    · obtain rfl : k = p.length := by omega
      go_wp2
      go_ret
      exact ⟨-1, rfl, by have h := hs.out; rw [List.take_length] at h; rw [pushB, h]; rfl, rfl⟩

theorem contains_c (A : Option Addr) (p : List Int) (cap : Nat) (w : World) (hlen : p.length ≤ 9223372036854775806) (hr : Rd w A (ints p)) :
    Calls Try.prog 99 #[.slice A p.length cap, .func (.func 100) #[] #[]] w fun e w' => e = .returned (.bool (pushB p)) ∧ w = w' := by
  go_enter Try.func99, Try.ntmps99
  go_wp2_with (go_at_call 115; refine (index_c _ _ _ _ hlen hr).mono ?_; rintro e w' ⟨i, rfl, hi, rfl⟩; have HI := Lib.hid hi; clear hi)
  go_ret
  exact ⟨ret_b HI.out.symm, rfl⟩

theorem pushes_c (A : Option Addr) (p : List Int) (cap : Nat) (w : World) (hlen : p.length ≤ 9223372036854775806) (hr : Rd w A (ints p)) :
    Calls Try.prog 85 #[.slice A p.length cap] w fun e w' => e = .returned (.bool (pushB p)) ∧ w = w' := by
  go_enter Try.func85, Try.ntmps85
  go_wp2_with (go_at_call 99; refine (contains_c _ _ _ _ hlen hr).mono ?_; rintro e w' ⟨rfl, rfl⟩)
  go_ret
  exact ⟨rfl, rfl⟩
end Go.Proofs.Ytpjdojjdhbmbjaa
