/- Which gains, voltages, wishes and rows are right: package volt's contracts. -/
import Derived.Test.YtmmjdabioolodaaTab
namespace Go.Proofs.Ytmmjdabioolodaa
open Go.RowKit

theorem isWires_c (n : Int) (w : World) : Calls Try.prog 59 #[.int .i64 n] w fun e w' => e = .returned (.bool (inB n 1 3)) ∧ w = w' := by
  by_cases h1 : 1 ≤ n
  · by_cases h2 : n ≤ 3
    all_goals
      go_enter Try.func59, Try.ntmps59
      go_wp2
      go_ret
      exact ⟨ret_b (by simp [inB]; omega), rfl⟩
  · go_enter Try.func59, Try.ntmps59
    go_wp2
    go_ret
    exact ⟨ret_b (by simp [inB]; omega), rfl⟩
theorem okN_no {l : List Int} {n : Nat} {m : Int} (h : l.length ≠ n) : okN l n m = false := by unfold okN; rw [decide_eq_false h]; rfl
theorem okN_len {l : List Int} {n : Nat} {m : Int} (h : l.length = n) : okN l n m = allTo (fun i => inB (l.getD i 0) (-m) m) l.length := by unfold okN; rw [decide_eq_true h]; rfl
theorem num_step {l : List Int} {m : Int} {k : Nat} (hk : k < l.length) (h : allTo (fun i => inB (l.getD i 0) (-m) m) k = true) :
    (¬ (-m ≤ l.getD k 0 ∧ l.getD k 0 ≤ m) → allTo (fun i => inB (l.getD i 0) (-m) m) l.length = false) ∧ (-m ≤ l.getD k 0 ∧ l.getD k 0 ≤ m → allTo (fun i => inB (l.getD i 0) (-m) m) (k + 1) = true) := by
  refine ⟨fun h1 => allTo_no hk (inB_no.2 h1), fun h1 => ?_⟩
  rw [allTo, h, inB_z.2 h1]; rfl
set_option maxHeartbeats 1000000 in
theorem validateNumbers_c (A : Option Addr) (l : List Int) (cap n : Nat) (m : Int) (w : World) (hlen : l.length ≤ 1000) (hm : 0 ≤ m ∧ m ≤ 1000) (hr : Rd w A (ints l)) :
    Calls Try.prog 64 #[.slice A l.length cap, .int .i64 n, .int .i64 m] w fun e w' => e = .returned (.int .i64 (errB (okN l n m))) ∧ Below w.heap.size w w' := by
  by_cases hl : l.length = n
  · rw [okN_len hl]
    have hne : ((l.length : Int) != (n : Int)) = false := by simp [hl]
    have hmw : wrap64 (-m) = -m := IntWalk.wrap64_in _ ⟨by omega, by omega⟩
    have HS := Lib.hid (fun k => @num_step l m k)
    have HE : Hid (∀ b, allTo (fun i => inB (l.getD i 0) (-m) m) l.length = b → errB (allTo (fun i => inB (l.getD i 0) (-m) m) l.length) = errB b) := fun b h => by rw [h]
    generalize errB (allTo (fun i => inB (l.getD i 0) (-m) m) l.length) = res at HE
    clear hl
    go_enter Try.func64, Try.ntmps64
    go_wp2_with (fail)
    go_loopg [15] l.length (fun gk iv wr => ∃ k : Nat, Hid (k + gk = l.length) ∧ iv = .int .i64 (k : Int) ∧ Hid (allTo (fun i => inB (l.getD i 0) (-m) m) k = true) ∧ Below w.heap.size w wr)
    case atStart => exact ⟨0, by simp [Hid], rfl, rfl, Below.refl _ _⟩
    case round =>
      obtain ⟨k, HK, rfl, hall, hb⟩ := hrel
      rcases gk with _ | gi
      · obtain rfl : k = l.length := HK.out
        go_wp2_with (fail)
        go_ret
        exact ⟨ret_i (by rw [HE.out _ hall.out]; rfl), hb⟩
      · have hlt : k < l.length := by have := HK.out; omega
        have hlt' : (k : Int) < (l.length : Int) := by omega
        obtain ⟨H1, H2⟩ := HS.out k hlt hall.out
        replace H1 := Lib.hid H1
        replace H2 := Lib.hid H2
        obtain ⟨b, o, rfl, _, hc⟩ := (hr.later hb).one hlt
        generalize l.getD k 0 = x at hc H1 H2
        by_cases hx : -m ≤ x
        · by_cases hx2 : x ≤ m
          · go_wp2_with (fail)
            go_roundg gi
            case rel => exact ⟨k + 1, by have := HK.out; show _ = _; omega, by go_num, H2.out ⟨hx, hx2⟩, hb⟩
            case measure => omega
          · go_wp2_with (fail)
            go_ret
            exact ⟨ret_i (by rw [HE.out _ (H1.out (by omega))]; rfl), hb⟩
        · go_wp2_with (fail)
          go_ret
          exact ⟨ret_i (by rw [HE.out _ (H1.out (by omega))]; rfl), hb⟩
  · rw [okN_no hl]
    have hne : ((l.length : Int) != (n : Int)) = true := by simp; omega
    go_enter Try.func64, Try.ntmps64
    go_wp2_with (fail)
    go_ret
    exact ⟨rfl, Below.refl _ _⟩
/-- Whether all rows are lists of n numbers from -m to m. -/
def eachN (ls : List (List Int)) (n : Nat) (m : Int) (k : Nat) : Bool := allTo (fun i => okN (ls.getD i []) n m) k
set_option maxHeartbeats 1000000 in
theorem validateEach_c (A : Option Addr) (R : Rows) (ls : List (List Int)) (cap n : Nat) (m : Int) (w : World) (hlen : ls.length ≤ 1000) (hl : ∀ k, k < ls.length → (ls.getD k []).length ≤ 1000) (hm : 0 ≤ m ∧ m ≤ 1000) (hr : RT w A R ls) :
    Calls Try.prog 60 #[.slice A ls.length cap, .int .i64 n, .int .i64 m] w fun e w' => e = .returned (.int .i64 (errB (eachN ls n m ls.length))) ∧ Below w.heap.size w w' := by
  have HE : Hid (∀ b, eachN ls n m ls.length = b → errB (eachN ls n m ls.length) = errB b) := fun b h => by rw [h]
  have HN : Hid (∀ k, k < ls.length → okN (ls.getD k []) n m = false → eachN ls n m ls.length = false) := fun k hk h => allTo_no hk h
  generalize errB (eachN ls n m ls.length) = res at HE
  go_enter Try.func60, Try.ntmps60
  go_wp2_with (fail)
  go_loopg [12] ls.length (fun gk iv wr => ∃ k : Nat, Hid (k + gk = ls.length) ∧ iv = .int .i64 (k : Int) ∧ Hid (eachN ls n m k = true) ∧ Below w.heap.size w wr)
  case atStart => exact ⟨0, by simp [Hid], rfl, rfl, Below.refl _ _⟩
  case round =>
    obtain ⟨k, HK, rfl, hall, hb⟩ := hrel
    rcases gk with _ | gi
    · obtain rfl : k = ls.length := HK.out
      go_wp2_with (fail)
      go_ret
      exact ⟨ret_i (by rw [HE.out _ hall.out]; rfl), hb⟩
    · have hlt : k < ls.length := by have := HK.out; omega
      have hlt' : (k : Int) < (ls.length : Int) := by omega
      have hrk := hr.later hb
      have HC := Lib.hid (validateNumbers_c (R k).1 (ls.getD k []) (R k).2 n m wr (hl k hlt) hm (hrk.row k hlt))
      obtain ⟨b, o, rfl, _, hc⟩ := hrk.at_ hlt
      have HNk := Lib.hid (HN.out k hlt)
      have HS : Hid (okN (ls.getD k []) n m = true → eachN ls n m (k + 1) = true) := fun h => by
        have := hall.out
        unfold eachN at this ⊢
        rw [allTo, this, h]; rfl
      generalize okN (ls.getD k []) n m = v at HC HNk HS
      generalize ls.getD k [] = l at hc HC
      clear hrk
      cases v with
      | true =>
        go_wp2_with (fail)
        refine HC.out.mono ?_
        rintro e w1 ⟨rfl, hb1⟩
        rw [errB_t]
        go_wp2_with (fail)
        go_roundg gi
        case rel => exact ⟨k + 1, by have := HK.out; show _ = _; omega, by go_num, HS.out trivial, bl_call hb hb1⟩
        case measure => omega
      | false =>
        go_wp2_with (fail)
        refine HC.out.mono ?_
        rintro e w1 ⟨rfl, hb1⟩
        rw [errB_f]
        go_wp2_with (fail)
        go_ret
        exact ⟨ret_i (by rw [HE.out _ (HNk.out trivial)]; rfl), bl_call hb hb1⟩
end Go.Proofs.Ytmmjdabioolodaa
