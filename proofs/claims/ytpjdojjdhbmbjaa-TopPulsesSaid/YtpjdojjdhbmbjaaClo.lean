/- Whether a pulse is closed, and calm. -/
import Derived.Test.YtpjdojjdhbmbjaaSum
import Derived.Test.YtpjdojjdhbmbjaaArea
import Derived.Test.YtpjdojjdhbmbjaaVal
import Derived.Test.YtpjdojjdhbmbjaaSet
namespace Go.Proofs.Ytpjdojjdhbmbjaa
open Go.RowKit

def closedB (p : List Int) (m : Int) : Bool := lastP (pathL m p) == (0, 0)
def calmB (p : List Int) (m : Int) : Bool := closedB p m && sumP (pathL m p) == (0, 0)

theorem isClosed_c (A : Option Addr) (p : List Int) (cap : Nat) (m : Int) (w : World) (hlen : p.length ≤ 9223372036854775806) (hr : Rd w A (ints p)) :
    Calls Try.prog 67 #[.slice A p.length cap, .int .i64 m] w fun e w' => e = .returned (.bool (closedB p m)) ∧ Below w.heap.size w w' := by
  go_enter Try.func67, Try.ntmps67
  go_wp2_with (go_at_call 60; refine (endOf_c _ _ _ _ _ hlen hr).mono ?_; rintro e w1 ⟨u, v, rfl, huv, hb⟩; have HU := Lib.hid huv; clear huv)
  all_goals
    go_ret
    exact ⟨ret_b (by rw [closedB, ← HU.out]; simp [*]), hb⟩

theorem isCalm_c (A : Option Addr) (p : List Int) (cap : Nat) (m : Int) (w : World) (hlen : p.length ≤ 9223372036854775806) (hr : Rd w A (ints p)) :
    Calls Try.prog 68 #[.slice A p.length cap, .int .i64 m] w fun e w' => e = .returned (.bool (calmB p m)) ∧ Below w.heap.size w w' := by
  have h1 := isClosed_c A p cap m w hlen hr
  have hc : Hid (calmB p m = (closedB p m && sumP (pathL m p) == (0, 0))) := rfl
  generalize closedB p m = c at h1 hc
  have H1 := Lib.hid h1
  clear h1
  cases c with
  | false =>
    go_enter Try.func68, Try.ntmps68
    go_wp2_with (fail)
    refine H1.out.mono ?_
    rintro e w1 ⟨rfl, hb⟩
    go_wp2_with (fail)
    go_ret
    exact ⟨ret_b (by rw [hc.out]; rfl), hb⟩
  | true =>
    go_enter Try.func68, Try.ntmps68
    go_wp2_with (fail)
    refine H1.out.mono ?_
    rintro e w1 ⟨rfl, hb⟩
    go_wp2_with (fail)
    refine (sumOf_c _ _ _ _ _ hlen (hr.later hb)).mono ?_
    rintro e w2 ⟨u, v, rfl, huv, hb2⟩
    have HU := Lib.hid huv
    clear huv
    go_wp2_with (fail)
    all_goals
      go_ret
      exact ⟨ret_b (by rw [hc.out, Bool.true_and, ← HU.out]; simp [*]), bl_call hb hb2⟩

/-- Whether a pulse is closed in all modes of a list. -/
def closedAllB (p l : List Int) : Bool := l.all (closedB p)

theorem closedInAll_c (A B : Option Addr) (p l : List Int) (cap cap' : Nat) (w : World) (hlen : p.length ≤ 9223372036854775806) (hlen' : l.length ≤ 9223372036854775806) (hr : Rd w A (ints p)) (hl : Rd w B (ints l)) :
    Calls Try.prog 76 #[.slice A p.length cap, .slice B l.length cap'] w fun e w' => e = .returned (.bool (closedAllB p l)) ∧ Below w.heap.size w w' := by
  go_enter Try.func76, Try.ntmps76
  go_wp2
  go_loopw [9] (fun i wr => ∃ k : Nat, k ≤ l.length ∧ i = .int .i64 k ∧ Hid ((l.take k).all (closedB p) = true) ∧ Below w.heap.size w wr) (fun i _ => l.length - (intOf i).toNat)
  case atStart => exact ⟨0, Nat.zero_le _, rfl, by simp [Hid], Below.refl _ _⟩
  case round =>
    obtain ⟨k, hk, rfl, hs, hb⟩ := hrel
    by_cases hlt : k < l.length
    · obtain ⟨b, o, rfl, _, hc⟩ := (hl.later hb).at_ (k := k) (by simpa using hlt)
      have hck := hc k _ (ints_get hlt)
      clear hc
      have H1 := Lib.hid (all_take_succ (closedB p) hlt)
      have H2 := Lib.hid (@all_no (closedB p) l k hlt)
      generalize l.getD k 0 = f at hck H1 H2
      have h1 := isClosed_c A p cap f wr hlen (hr.later hb)
      generalize hcb : closedB p f = c at h1 H1 H2
      have HC := Lib.hid h1
      clear h1 hcb
      cases c with
      | true =>
        go_wp2_with (fail)
        refine HC.out.mono ?_
        rintro e w1 ⟨rfl, hb1⟩
        go_wp2_with (fail)
        go_roundw
        case rel => exact ⟨k + 1, by omega, by go_num, by show _ = _; rw [H1.out, hs.out]; rfl, bl_call hb hb1⟩
        case measure => simp [intOf]; omega
      | false =>
        go_wp2_with (fail)
        refine HC.out.mono ?_
        rintro e w1 ⟨rfl, hb1⟩
        go_wp2_with (fail)
        go_ret
        exact ⟨ret_b (H2.out trivial), bl_call hb hb1⟩
    · obtain rfl : k = l.length := by omega
      go_wp2_with (fail)
      go_ret
      exact ⟨ret_b (by have h := hs.out; rw [List.take_length] at h; exact h), hb⟩
end Go.Proofs.Ytpjdojjdhbmbjaa
