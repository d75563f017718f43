/- Lists of moves are compared. -/
import Derived.Test.YtjgpfnnokdcgoaaVal
import Derived.Deep.LoopGhost
import Derived.BigQuiet
namespace Go.Proofs.Ytjgpfnnokdcgoaa
open Go.RowKit

theorem sameP_take {l m : List (Int × Int)} {k : Nat} (hl : l.length = m.length) (hk : k < l.length) : (l.take (k + 1) = m.take (k + 1)) ↔ (l.take k = m.take k ∧ l.getD k (0, 0) = m.getD k (0, 0)) := by
  rw [List.take_succ_eq_append_getElem hk, List.take_succ_eq_append_getElem (by omega)]
  have e1 : l.getD k (0, 0) = l[k] := by simp [hk]
  have e2 : m.getD k (0, 0) = m[k] := by simp [show k < m.length by omega]
  rw [e1, e2]
  constructor
  · intro h
    have := List.append_inj h (by simp; omega)
    exact ⟨this.1, by simpa using this.2⟩
  · rintro ⟨h1, h2⟩; rw [h1, h2]

set_option maxRecDepth 100000 in
set_option maxHeartbeats 1000000 in
theorem sameM_c (A B : Option Addr) (l m : List (Int × Int)) (c d : Nat) (w : World) (hlen : l.length ≤ 100000) (hr : Rd w A (cellsP l)) (hs : Rd w B (cellsP m)) :
    Calls Try.prog 31 #[.slice A l.length c, .slice B m.length d] w fun e w' => e = .returned (.bool (decide (l = m))) ∧ Below w.heap.size w w' := by
  by_cases hl : l.length = m.length
  · have hli : ((l.length : Int) != (m.length : Int)) = false := by simp [hl]
    have HL := Lib.hid hl
    clear hl
    go_enter Try.func31, Try.ntmps31
    go_wp2_with (fail)
    go_loopg [5] l.length (fun gk iv wr => ∃ k : Nat, k + gk = l.length ∧ iv = .int .i64 (k : Int) ∧ Hid (l.take k = m.take k) ∧ Below w.heap.size w wr)
    case atStart => exact ⟨0, by omega, rfl, by simp [Hid], Below.refl _ _⟩
    case round =>
      obtain ⟨k, hk, rfl, hall, hb⟩ := hrel
      rcases gk with _ | gi
      · obtain rfl : k = l.length := by omega
        have HS : Hid (decide (l = m) = true) := by
          show _ = _
          have h := hall.out
          rw [List.take_length, HL.out, List.take_length] at h
          rw [h]; simp
        go_wp2_with (fail)
        go_ret
        exact ⟨by rw [HS.out]; rfl, hb⟩
      · have hkl : k < l.length := by omega
        have hkm : k < m.length := by rw [← HL.out]; exact hkl
        have hkl' : (k : Int) < (l.length : Int) := by omega
        have hkm' : (k : Int) < (m.length : Int) := by omega
        obtain ⟨b1, o1, rfl, _, c0, c1⟩ := (hr.later hb).pair hkl
        obtain ⟨b2, o2, rfl, _, d0, d1⟩ := (hs.later hb).pair hkm
        have HX := Lib.hid (sameP_take HL.out hkl)
        generalize l.getD k (0, 0) = x at *
        generalize m.getD k (0, 0) = y at *
        obtain ⟨x0, x1⟩ := x
        obtain ⟨y0, y1⟩ := y
        simp only [] at c0 c1 d0 d1
        by_cases h0 : x0 = y0
        · by_cases h1 : x1 = y1
          · subst h0 h1
            have HT : Hid (l.take (k + 1) = m.take (k + 1)) := HX.out.2 ⟨hall.out, rfl⟩
            go_wp2_with (fail)
            go_quiet (fail)
            go_wp2_with (fail)
            go_roundg gi
            case rel => exact ⟨k + 1, by omega, by go_num, HT, below_drewN hb _⟩
            case measure => omega
          · have HD : Hid (decide (l = m) = false) := by
              simp only [Hid, decide_eq_false_iff_not]
              rintro rfl
              have := (HX.out.1 rfl).2
              injection this with _ e
              exact h1 e
            go_wp2_with (fail)
            go_quiet (fail)
            go_wp2_with (fail)
            go_ret
            exact ⟨by rw [HD.out]; rfl, below_drewN hb _⟩
        · have HD : Hid (decide (l = m) = false) := by
            simp only [Hid, decide_eq_false_iff_not]
            rintro rfl
            have := (HX.out.1 rfl).2
            injection this with e _
            exact h0 e
          go_wp2_with (fail)
          go_quiet (fail)
          go_wp2_with (fail)
          go_ret
          exact ⟨by rw [HD.out]; rfl, below_drewN hb _⟩
  · have hne : ((l.length : Int) != (m.length : Int)) = true := by simp; omega
    have hd : decide (l = m) = false := by simp only [decide_eq_false_iff_not]; rintro rfl; exact hl rfl
    go_enter Try.func31, Try.ntmps31
    go_wp2_with (fail)
    go_ret
    exact ⟨by rw [hd]; rfl, Below.refl _ _⟩
end Go.Proofs.Ytjgpfnnokdcgoaa
