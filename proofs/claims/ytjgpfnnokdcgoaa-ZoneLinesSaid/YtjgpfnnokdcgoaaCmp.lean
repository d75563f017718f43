/- Comparisons of lists, and whether a number is in one. -/
import Derived.Test.YtjgpfnnokdcgoaaBase
import Derived.WalkSmall
namespace Go.Proofs.Ytjgpfnnokdcgoaa
open Go.RowKit
theorem take_same {p q : List Int} {k : Nat} (hp : k < p.length) (hq : k < q.length) (h : p.take k = q.take k) (he : p.getD k 0 = q.getD k 0) : p.take (k + 1) = q.take (k + 1) := by
  rw [List.take_succ_eq_append_getElem hp, List.take_succ_eq_append_getElem hq, h]
  simp [hp, hq] at he
  rw [he]
theorem not_same {p q : List Int} {k : Nat} (he : p.getD k 0 ≠ q.getD k 0) : decide (p = q) = false := by
  simp only [decide_eq_false_iff_not]
  rintro rfl
  exact he rfl
set_option maxHeartbeats 1000000 in
theorem sameInts_c (A B : Option Addr) (p q : List Int) (cap cap' : Nat) (w : World) (hlen : p.length ≤ 9223372036854775806) (hr : Rd w A (ints p)) (hq : Rd w B (ints q)) :
    Calls Try.prog 26 #[.slice A p.length cap, .slice B q.length cap'] w fun e w' => e = .returned (.bool (decide (p = q))) ∧ Below w.heap.size w w' := by
  by_cases hl : p.length = q.length
  · have hne : ((p.length : Int) != (q.length : Int)) = false := by simp [hl]
    have HL := Lib.hid hl
    clear hl
    go_enter Try.func26, Try.ntmps26
    go_wp2
    go_loopw [5] (fun i wr => ∃ k : Nat, k ≤ p.length ∧ i = .int .i64 k ∧ Hid (p.take k = q.take k) ∧ Below w.heap.size w wr) (fun i _ => p.length - (intOf i).toNat)
    case atStart => exact ⟨0, Nat.zero_le _, rfl, by simp [Hid], Below.refl _ _⟩
    case round =>
      obtain ⟨k, hk, rfl, ht, hb⟩ := hrel
      by_cases hlt : k < p.length
      · have hlt' : k < q.length := by have := HL.out; omega
        obtain ⟨b, o, rfl, _, hc⟩ := (hr.later hb).at_ (k := k) (by simpa using hlt)
        obtain ⟨b', o', rfl, _, hc'⟩ := (hq.later hb).at_ (k := k) (by simpa using hlt')
        have hck := hc k _ (ints_get hlt)
        have hck' := hc' k _ (ints_get hlt')
        clear hc hc'
        have H1 := Lib.hid (take_same hlt hlt' ht.out)
        have H2 := Lib.hid (@not_same p q k)
        generalize p.getD k 0 = f at hck H1 H2
        generalize q.getD k 0 = g at hck' H1 H2
        by_cases hfg : (f != g) = true
        · go_wp2
          go_quiet (fail)
          go_wp2
          go_ret
          exact ⟨ret_b (H2.out (by simpa using hfg)), below_drewN hb _⟩
        · have hfg' : (f != g) = false := by simpa using hfg
          clear hfg
          go_wp2
          go_quiet (fail)
          go_wp2
          go_roundw
          case rel => exact ⟨k + 1, by omega, by go_num, H1.out (by simpa using hfg'), below_drewN hb _⟩
          case measure => simp [intOf]; omega
      · obtain rfl : k = p.length := by omega
        go_wp2
        go_ret
        exact ⟨ret_b (by have h := ht.out; rw [List.take_length, HL.out, List.take_length] at h; simp [h]), hb⟩
  · have hne : ((p.length : Int) != (q.length : Int)) = true := by simp; omega
    have hd : decide (p = q) = false := by simp only [decide_eq_false_iff_not]; rintro rfl; exact hl rfl
    go_enter Try.func26, Try.ntmps26
    go_wp2
    go_ret
    exact ⟨ret_b hd, Below.refl _ _⟩
theorem any_take_succ (x : Int) {p : List Int} {k : Nat} (h : k < p.length) (hn : x ∉ p.take k) (hf : p.getD k 0 ≠ x) : x ∉ p.take (k + 1) := by
  rw [List.take_succ_eq_append_getElem h]
  simp only [List.mem_append, List.mem_singleton, not_or]
  simp [h] at hf
  exact ⟨hn, fun e => hf e.symm⟩
theorem any_yes (x : Int) {p : List Int} {k : Nat} (h : k < p.length) (hf : p.getD k 0 = x) : decide (x ∈ p) = true := by
  simp [h] at hf ⊢
  rw [← hf]; exact List.getElem_mem h
set_option maxHeartbeats 1000000 in
theorem has_c (A : Option Addr) (p : List Int) (cap : Nat) (x : Int) (w : World) (hlen : p.length ≤ 9223372036854775806) (hr : Rd w A (ints p)) :
    Calls Try.prog 66 #[.slice A p.length cap, .int .i64 x] w fun e w' => e = .returned (.bool (decide (x ∈ p))) ∧ w = w' := by
  go_enter Try.func66, Try.ntmps66
  go_wp2
  go_loop [5] (fun i => ∃ k : Nat, k ≤ p.length ∧ i = .int .i64 k ∧ Hid (x ∉ p.take k)) (fun i => p.length - (intOf i).toNat)
  case atStart => exact ⟨0, Nat.zero_le _, rfl, by simp [Hid]⟩
  case round =>
    obtain ⟨k, hk, rfl, ht⟩ := hrel
    by_cases hlt : k < p.length
    · obtain ⟨b, o, rfl, _, hc⟩ := hr.at_ (k := k) (by simpa using hlt)
      have hck := hc k _ (ints_get hlt)
      clear hc
      have H1 := Lib.hid (any_take_succ x hlt ht.out)
      have H2 := Lib.hid (@any_yes x p k hlt)
      generalize p.getD k 0 = f at hck H1 H2
      by_cases hfg : (f == x) = true
      · go_wp2
        go_ret
        exact ⟨ret_b (H2.out (by simpa using hfg)), rfl⟩
      · have hfg' : (f == x) = false := by simpa using hfg
        clear hfg
        go_wp2
        go_round
        case rel => exact ⟨k + 1, by omega, by go_num, H1.out (by simpa using hfg')⟩
        case measure => simp [intOf]; omega
    · obtain rfl : k = p.length := by omega
      go_wp2
      go_ret
      exact ⟨ret_b (by have h := ht.out; rw [List.take_length] at h; simpa using h), rfl⟩
end Go.Proofs.Ytjgpfnnokdcgoaa
