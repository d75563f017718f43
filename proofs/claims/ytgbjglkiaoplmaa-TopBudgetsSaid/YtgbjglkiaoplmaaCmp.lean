/- slices.Compare at numbers, and cmp.Or at two of them. -/
import Derived.Test.YtgbjglkiaoplmaaOpt
namespace Go.Proofs.Ytgbjglkiaoplmaa
open Go.RowKit

/-- Two lists compared, number by number. -/
def cmpL : List Int → List Int → Int
  | [], [] => 0
  | [], _ :: _ => -1
  | _ :: _, [] => 1
  | a :: s, b :: t => if cmpI a b = 0 then cmpL s t else cmpI a b
theorem cmpL_drop {a b : List Int} {k : Nat} (ha : k < a.length) (hb : k < b.length) : cmpL (a.drop k) (b.drop k) = if cmpI (a.getD k 0) (b.getD k 0) = 0 then cmpL (a.drop (k + 1)) (b.drop (k + 1)) else cmpI (a.getD k 0) (b.getD k 0) := by
  rw [List.drop_eq_getElem_cons ha, List.drop_eq_getElem_cons hb, cmpL, getD_of ha, getD_of hb]
theorem cmpL_end {a b : List Int} {k : Nat} (ha : a.length ≤ k) (hk : k ≤ b.length) : cmpL (a.drop k) (b.drop k) = if k < b.length then -1 else 0 := by
  rw [List.drop_of_length_le ha]
  split
  · rename_i h; rw [List.drop_eq_getElem_cons h]; rfl
  · rename_i h; rw [List.drop_of_length_le (by omega)]; rfl
theorem cmpL_more {a b : List Int} {k : Nat} (ha : k < a.length) (hk : b.length ≤ k) : cmpL (a.drop k) (b.drop k) = 1 := by
  rw [List.drop_eq_getElem_cons ha, List.drop_of_length_le hk]; rfl
set_option maxRecDepth 100000 in
set_option maxHeartbeats 2000000 in
theorem sCompare_c (A B : Option Addr) (a b : List Int) (cap cap2 : Nat) (w : World) (hla : a.length ≤ 1000) (ha : Rd w A (ints a)) (hb : Rd w B (ints b)) :
    Calls Try.prog 113 #[.slice A a.length cap, .slice B b.length cap2] w fun e w' => e = .returned (.int .i64 (cmpL a b)) ∧ w = w' := by
  have HD := Lib.hid (fun k => @cmpL_drop a b k)
  have HE := Lib.hid (fun k => @cmpL_end a b k)
  have HM := Lib.hid (fun k => @cmpL_more a b k)
  go_enter Try.func113, Try.ntmps113
  go_wp2_with (fail)
  go_loopg [11] a.length (fun gk iv wr => ∃ k : Nat, Hid (k + gk = a.length) ∧ iv = .int .i64 (k : Int) ∧ Hid (k ≤ b.length) ∧ Hid (cmpL a b = cmpL (a.drop k) (b.drop k)) ∧ w = wr)
  case atStart => exact ⟨0, by simp [Hid], rfl, Nat.zero_le _, rfl, rfl⟩
  case round =>
    obtain ⟨k, HK, rfl, HB, HC, rfl⟩ := hrel
    rcases gk with _ | gi
    · obtain rfl : k = a.length := HK.out
      have hE := HE.out a.length (Nat.le_refl _) HB.out
      rw [← HC.out] at hE
      replace hE := Lib.hid hE
      by_cases h : a.length < b.length
      · have h' : (a.length : Int) < (b.length : Int) := by omega
        go_wp2_with (fail)
        go_ret
        exact ⟨ret_i (by rw [hE.out, if_pos h]), rfl⟩
      · have h' : ¬ (a.length : Int) < (b.length : Int) := by omega
        go_wp2_with (fail)
        go_ret
        exact ⟨ret_i (by rw [hE.out, if_neg h]), rfl⟩
    · have hkN : k < a.length := by have := HK.out; omega
      have hkN' : (k : Int) < (a.length : Int) := by omega
      obtain ⟨b1, o1, rfl, _, c1⟩ := ha.one hkN
      by_cases h : k < b.length
      · have h' : (k : Int) < (b.length : Int) := by omega
        obtain ⟨b2, o2, rfl, _, c2⟩ := hb.one h
        have hD := HD.out k hkN h
        rw [← HC.out] at hD
        replace hD := Lib.hid hD
        have HCm := fun w => Lib.hid (cmp_c (a.getD k 0) (b.getD k 0) w)
        generalize cmpI (a.getD k 0) (b.getD k 0) = z at *
        generalize a.getD k 0 = x at *
        generalize b.getD k 0 = y at *
        by_cases hz : z = 0
        · subst hz
          go_wp2_with (fail)
          refine (HCm _).out.mono ?_
          rintro e w2 ⟨rfl, rfl⟩
          go_wp2_with (fail)
          go_roundg gi
          case rel => exact ⟨k + 1, by have := HK.out; show _ = _; omega, by go_num, h, by show _ = _; rw [hD.out]; simp, rfl⟩
          case measure => omega
        · have hz' : (z == 0) = false := by rw [beq_eq_false_iff_ne]; exact hz
          go_wp2_with (fail)
          refine (HCm _).out.mono ?_
          rintro e w2 ⟨rfl, rfl⟩
          go_wp2_with (fail)
          go_ret
          exact ⟨ret_i (by rw [hD.out, if_neg hz]), rfl⟩
      · have h' : ¬ (k : Int) < (b.length : Int) := by omega
        have h'' : (b.length : Int) ≤ (k : Int) := by omega
        have hM := HM.out k hkN (by omega)
        rw [← HC.out] at hM
        replace hM := Lib.hid hM
        go_wp2_with (fail)
        go_ret
        exact ⟨ret_i hM.out, rfl⟩
set_option maxRecDepth 100000 in
set_option maxHeartbeats 2000000 in
theorem cmpOr_c (A : Option Addr) (x y : Int) (cap : Nat) (w : World) (ha : Rd w A (ints [x, y])) :
    Calls Try.prog 112 #[.slice A 2 cap] w fun e w' => e = .returned (.int .i64 (if x = 0 then y else x)) ∧ w = w' := by
  obtain ⟨b1, o1, rfl, _, c0⟩ := ha.one (k := 0) (by simp)
  obtain ⟨b2, o2, he, _, c1⟩ := ha.one (k := 1) (by simp)
  cases he
  replace c0 : w.cell? ⟨b1, o1, none⟩ = some (.int .i64 x) := c0
  replace c1 : w.cell? ⟨b1, o1 + 1, none⟩ = some (.int .i64 y) := c1
  have H0 : Hid (x = 0 → (if x = 0 then y else x) = y) := fun h => if_pos h
  have H1 : Hid (¬ x = 0 → (if x = 0 then y else x) = x) := fun h => if_neg h
  generalize (if x = 0 then y else x) = r at *
  go_enter Try.func112, Try.ntmps112
  go_wp2_with (fail)
  go_loopg [8] 2 (fun gk iv wr => ∃ k : Nat, Hid (k + gk = 2) ∧ iv = .int .i64 (k : Int) ∧ Hid (0 < k → x = 0) ∧ Hid (1 < k → y = 0) ∧ w = wr)
  case atStart => exact ⟨0, by simp [Hid], rfl, fun h => absurd h (by decide), fun h => absurd h (by decide), rfl⟩
  case round =>
    obtain ⟨k, HK, rfl, HX, HY, rfl⟩ := hrel
    rcases gk with _ | gi
    · obtain rfl : k = 2 := HK.out
      have h0 := HX.out (by decide)
      have h1 := HY.out (by decide)
      have hr : Hid (r = 0) := by show _ = _; rw [H0.out h0, h1]
      clear h0 h1
      go_wp2_with (fail)
      go_ret
      exact ⟨ret_i hr.out, rfl⟩
    · have hk : k = 0 ∨ k = 1 := by have := HK.out; omega
      rcases hk with rfl | rfl
      · have hw : gi = 1 := by have := HK.out; omega
        by_cases hx : x = 0
        · have Hx : Hid (x = 0) := hx
          subst hx
          go_wp2_with (fail)
          go_roundg gi
          case rel => exact ⟨1, by have := HK.out; show _ = _; omega, by go_num, fun _ => (by first | rfl | exact Hx.out), fun h => absurd h (by decide), (by first | rfl | trivial)⟩
          case measure => omega
        · have hx' : (x == 0) = false := by rw [beq_eq_false_iff_ne]; exact hx
          have hr := Lib.hid (H1.out hx)
          go_wp2_with (fail)
          go_ret
          exact ⟨ret_i hr.out, rfl⟩
      · have hr := Lib.hid (H0.out (HX.out (by decide)))
        by_cases hy : y = 0
        · have hy' : (y == 0) = true := by rw [beq_iff_eq]; exact hy
          go_wp2_with (fail)
          go_roundg gi
          case rel => exact ⟨2, by have := HK.out; show _ = _; omega, by go_num, fun _ => HX.out (by decide), fun _ => hy, rfl⟩
          case measure => omega
        · have hy' : (y == 0) = false := by rw [beq_eq_false_iff_ne]; exact hy
          go_wp2_with (fail)
          go_ret
          exact ⟨ret_i hr.out, rfl⟩
end Go.Proofs.Ytgbjglkiaoplmaa
