/- Rename and its parts: slices.Index and slices.Contains at ints, isRenaming, renamed. -/
import Derived.Test.YteoajadcdjaalaaRenM
import Derived.Test.YteoajadcdjaalaaLev
import Derived.Test.YteoajadcdjaalaaRwith
namespace Go.Proofs.Yteoajadcdjaalaa
open Go.RowKit

theorem ints_cell {w : World} {A : Option Addr} {to : List Int} (hr : Rd w A (ints to)) {i : Nat} (hi : i < to.length) : ∃ b o, A = some ⟨b, o, none⟩ ∧ b < w.heap.size ∧ ∀ j, j < to.length → w.cell? ⟨b, o + j, none⟩ = some (.int .i64 (to.getD j 0)) := by
  rcases hr with h0 | ⟨b, o, rfl, hb, hc⟩
  · have : (ints to).length = 0 := by rw [h0]; rfl
    simp [ints] at this; subst this; simp at hi
  · refine ⟨b, o, rfl, hb, fun j hj => hc j _ (ints_get hj)⟩

set_option maxRecDepth 100000 in
set_option maxHeartbeats 1000000 in
theorem index_c (A : Option Addr) (to : List Int) (c : Nat) (q : Int) (w : World) (hlen : to.length ≤ 1000) (hr : Rd w A (ints to)) :
    Calls Try.prog 105 #[.slice A to.length c, .int .i64 q] w fun e w' => ∃ r : Int, e = .returned (.int .i64 r) ∧ (0 ≤ r ↔ q ∈ to) ∧ Below w.heap.size w w' := by
  go_enter Try.func105, Try.ntmps105
  go_wp2_with (fail)
  go_loopg [8] to.length (fun gk kv wr => ∃ i : Nat, Hid (i + gk = to.length) ∧ kv = .int .i64 (i : Int) ∧ Hid (∀ j, j < i → to.getD j 0 ≠ q) ∧ Below w.heap.size w wr)
  case atStart => exact ⟨0, by simp [Hid], rfl, fun j h => by omega, Below.refl _ _⟩
  case round =>
    obtain ⟨i, HI, rfl, HN, hb⟩ := hrel
    rcases gk with _ | gi
    · have hni : ¬ (i : Int) < (to.length : Int) := by have h := HI.out; omega
      have HE : Hid ((0 : Int) ≤ -1 ↔ q ∈ to) := by
        show _ ↔ _
        have h : ¬ q ∈ to := fun hm => by
          obtain ⟨j, hj, he⟩ := List.mem_iff_getElem.1 hm
          exact HN.out j (by have h := HI.out; omega) (by simp [hj, he])
        simp [h]
      go_wp2_with (fail)
      go_ret
      exact ⟨-1, rfl, HE.out, hb⟩
    · have hil : i < to.length := by have h := HI.out; omega
      have hil' : (i : Int) < (to.length : Int) := by omega
      obtain ⟨b, o, rfl, hbl, hc⟩ := ints_cell (hr.later hb) hil
      have q1 := hc i hil
      have HE : Hid (to.getD i 0 = q → ((0 : Int) ≤ (i : Int) ↔ q ∈ to)) := fun h => by
        have hm : q ∈ to := by rw [← h]; simp [hil]
        simp [hm]
      have HS : Hid (to.getD i 0 ≠ q → ∀ j, j < i + 1 → to.getD j 0 ≠ q) := fun h j hj => by
        by_cases hji : j = i
        · subst hji; exact h
        · exact HN.out j (by omega)
      clear hc
      generalize to.getD i 0 = x at *
      by_cases hx : x = q
      · subst hx
        have HE' := Lib.hid (HE.out rfl)
        go_wp2_with (fail)
        go_ret
        exact ⟨(i : Int), rfl, HE'.out, hb⟩
      · have HS' := Lib.hid (HS.out hx)
        have hxq : ¬ q = x := fun h => hx h.symm
        go_wp2_with (fail)
        go_roundg gi
        case rel => exact ⟨i + 1, by have h := HI.out; show _ = _; omega, by go_num, HS'.out, hb⟩
        case measure => omega

set_option maxRecDepth 100000 in
set_option maxHeartbeats 1000000 in
theorem contains_c (A : Option Addr) (to : List Int) (c : Nat) (q : Int) (w : World) (hlen : to.length ≤ 1000) (hr : Rd w A (ints to)) :
    Calls Try.prog 99 #[.slice A to.length c, .int .i64 q] w fun e w' => e = .returned (.bool (to.contains q)) ∧ Below w.heap.size w w' := by
  have HI := Lib.hid (index_c A to c q w hlen hr)
  have HQ : Hid (∀ r : Int, (0 ≤ r ↔ q ∈ to) → to.contains q = decide (0 ≤ r)) := fun r h => by rw [Bool.eq_iff_iff]; simp [h]
  generalize to.contains q = cq at *
  go_enter Try.func99, Try.ntmps99
  go_wp2_with (fail)
  refine HI.out.mono ?_
  rintro e w1 ⟨r, rfl, hr1, hb1⟩
  have HR := Lib.hid (HQ.out r hr1)
  clear hr1
  go_wp2_with (fail)
  go_ret
  exact ⟨ret_b HR.out, hb1⟩

set_option maxRecDepth 100000 in
set_option maxHeartbeats 1000000 in
theorem isRenaming_c (n : Int) (A : Option Addr) (to : List Int) (c : Nat) (w : World) (hlen : to.length ≤ 1000) (hr : Rd w A (ints to)) :
    Calls Try.prog 83 #[.int .i64 n, .slice A to.length c] w fun e w' => e = .returned (.bool (ordB n to)) ∧ Below w.heap.size w w' := by
  by_cases hn : (to.length : Int) = n
  · subst hn
    have HO : Hid (∀ i : Nat, (∀ j : Nat, j < i → to.contains (j : Int) = true) → (i < to.length → to.contains (i : Int) = false → ordB (to.length : Int) to = false) ∧ (to.length ≤ i → ordB (to.length : Int) to = true)) := fun i h => by
      refine ⟨fun hi hf => ?_, fun hi => ?_⟩
      · rw [ordB, Int.toNat_natCast, Bool.and_eq_false_iff]
        refine .inr ?_
        rw [List.all_eq_false]
        exact ⟨i, List.mem_range.2 hi, by rw [hf]; decide⟩
      · rw [ordB, Int.toNat_natCast]
        simp only [decide_true, Bool.true_and, List.all_eq_true, List.mem_range]
        exact fun q hq => h q (by omega)
    have HC := fun (q : Nat) w1 h1 => Lib.hid (contains_c A to c (q : Int) w1 hlen h1)
    go_enter Try.func83, Try.ntmps83
    go_wp2_with (fail)
    go_loopg [11] to.length (fun gk kv wr => ∃ i : Nat, Hid (i + gk = to.length) ∧ kv = .int .i64 (i : Int) ∧ Hid (∀ j : Nat, j < i → to.contains (j : Int) = true) ∧ Below w.heap.size w wr)
    case atStart => exact ⟨0, by simp [Hid], rfl, fun j h => by omega, Below.refl _ _⟩
    case round =>
      obtain ⟨i, HI, rfl, HN, hb⟩ := hrel
      have HO' := Lib.hid (HO.out i HN.out)
      rcases gk with _ | gi
      · have hni : ¬ (i : Int) < (to.length : Int) := by have h := HI.out; omega
        have HE := Lib.hid (HO'.out.2 (by have h := HI.out; omega))
        go_wp2_with (fail)
        go_ret
        exact ⟨ret_b HE.out, hb⟩
      · have hil : i < to.length := by have h := HI.out; omega
        have hil' : (i : Int) < (to.length : Int) := by omega
        have HC' := HC i _ (hr.later hb)
        have HE := Lib.hid (HO'.out.1 hil)
        have HS : Hid (to.contains (i : Int) = true → ∀ j : Nat, j < i + 1 → to.contains (j : Int) = true) := fun h j hj => by
          by_cases hji : j = i
          · subst hji; exact h
          · exact HN.out j (by omega)
        clear HO' HC
        generalize to.contains (i : Int) = cq at *
        cases cq with
        | false =>
          have HE' := Lib.hid (HE.out rfl)
          go_wp2_with (fail)
          refine HC'.out.mono ?_
          rintro e w1 ⟨rfl, hb1⟩
          go_wp2_with (fail)
          go_ret
          exact ⟨ret_b HE'.out, bl_call hb hb1⟩
        | true =>
          have HS' := Lib.hid (HS.out rfl)
          go_wp2_with (fail)
          refine HC'.out.mono ?_
          rintro e w1 ⟨rfl, hb1⟩
          go_wp2_with (fail)
          go_roundg gi
          case rel => exact ⟨i + 1, by have h := HI.out; show _ = _; omega, by go_num, HS'.out, bl_call hb hb1⟩
          case measure => omega
  · have HE : Hid (ordB n to = false) := by show _ = _; rw [ordB, decide_eq_false hn]; rfl
    have hn' : ((to.length : Int) != n) = true := by rw [bne_iff_ne]; exact hn
    go_enter Try.func83, Try.ntmps83
    go_wp2_with (fail)
    go_ret
    exact ⟨ret_b HE.out, Below.refl _ _⟩
end Go.Proofs.Yteoajadcdjaalaa
