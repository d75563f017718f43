/- The functions that tell a pulse's end, area and sum. -/
import Derived.Test.YtpjdojjdhbmbjaaClo
namespace Go.Proofs.Ytpjdojjdhbmbjaa
open Go.RowKit

def areaG (p : List Int) (m : Int) : Int := if inE p m = 0 then areaP (pathL m p) else 0
def endG (p : List Int) (m : Int) : Int × Int := if inE p m = 0 then lastP (pathL m p) else (0, 0)
def sumG (p : List Int) (m : Int) : Int × Int := if inE p m = 0 then sumP (pathL m p) else (0, 0)

theorem area_c (A : Option Addr) (p : List Int) (cap : Nat) (m : Int) (w : World) (hlen : p.length ≤ 9223372036854775806) (hr : Rd w A (ints p)) :
    Calls Try.prog 26 #[.slice A p.length cap, .int .i64 m] w fun e w' => e = .returned (.tuple #[.int .i64 (areaG p m), .int .i64 (inE p m)]) ∧ Below w.heap.size w w' := by
  have HV := Lib.hid (validateIn_c A p cap m w hr)
  have HA : Hid (areaG p m = if inE p m = 0 then areaP (pathL m p) else 0) := rfl
  generalize areaG p m = a at HA
  generalize inE p m = E at HV HA
  by_cases hE : (E != 0) = true
  · go_enter Try.func26, Try.ntmps26
    go_wp2_with (go_at_call 56; refine HV.out.mono ?_; rintro e w' ⟨rfl, rfl⟩)
    go_ret2
    exact ⟨by rw [HA.out, if_neg (by simpa using hE)]; rfl, Below.refl _ _⟩
  · have hE' : (E != 0) = false := by simpa using hE
    clear hE
    go_enter Try.func26, Try.ntmps26
    go_wp2_with (first | (go_at_call 56; refine HV.out.mono ?_; rintro e w' ⟨rfl, rfl⟩) | (go_at_call 62; refine (areaOf_c _ _ _ _ _ hlen hr).mono ?_; rintro e w' ⟨rfl, hb⟩))
    go_ret2
    have hE0 : E = 0 := by simpa using hE'
    exact ⟨by rw [HA.out, if_pos hE0, hE0]; rfl, hb⟩

theorem end_c (A : Option Addr) (p : List Int) (cap : Nat) (m : Int) (w : World) (hlen : p.length ≤ 9223372036854775806) (hr : Rd w A (ints p)) :
    Calls Try.prog 21 #[.slice A p.length cap, .int .i64 m] w fun e w' => ∃ u v, e = .returned (.tuple #[.agg #[.int .i64 u, .int .i64 v], .int .i64 (inE p m)]) ∧ (u, v) = endG p m ∧ Below w.heap.size w w' := by
  have HV := Lib.hid (validateIn_c A p cap m (w.alloc (.cells #[.int .i64 0, .int .i64 0] 30)) (hr.later (bl_alloc (Below.refl _ _) _)))
  have HC := Lib.hid (endOf_c A p cap m (w.alloc (.cells #[.int .i64 0, .int .i64 0] 30)) hlen (hr.later (bl_alloc (Below.refl _ _) _)))
  have HA : Hid (endG p m = if inE p m = 0 then lastP (pathL m p) else (0, 0)) := rfl
  have x0 : Bx (w.alloc (.cells #[.int .i64 0, .int .i64 0] 30)) w.heap.size 30 #[.int .i64 0, .int .i64 0] := Bx.new w _ _
  generalize endG p m = a at HA
  generalize inE p m = E at HV HA
  by_cases hE : (E != 0) = true
  · go_enter Try.func21, Try.ntmps21
    go_wp2_with (fail)
    refine HV.out.mono ?_
    rintro e w' ⟨rfl, rfl⟩
    clear HV HC
    go_wp2_with (fail)
    exact bodyPost_ret (v := .tuple #[.agg #[.int .i64 0, .int .i64 0], .int .i64 E]) (by simp [results, Try.results21, go_sem]) rfl ⟨0, 0, rfl, by rw [HA.out, if_neg (by simpa using hE)], by repeat (first | exact Below.refl _ _ | refine bl_alloc ?_ _ | refine bl_set ?_ (Nat.le_refl _) _)⟩
  · have hE' : (E != 0) = false := by simpa using hE
    clear hE
    go_enter Try.func21, Try.ntmps21
    go_wp2_with (fail)
    refine HV.out.mono ?_
    rintro e w' ⟨rfl, rfl⟩
    go_wp2_with (fail)
    refine HC.out.mono ?_
    rintro e w1 ⟨u, v, rfl, huv, hb⟩
    obtain ⟨h1, h2, h3, h4⟩ := (x0.call hb).two
    have HU := Lib.hid huv
    clear huv HV HC
    go_wp2_with (fail)
    have hE0 : E = 0 := by simpa using hE'
    obtain ⟨k1, k2, _, _⟩ := ((x0.call hb).set2 (.int .i64 u) (.int .i64 v)).two
    exact bodyPost_ret (v := .tuple #[.agg #[.int .i64 u, .int .i64 v], .int .i64 0]) (by simp [results, Try.results21, go_sem, k1, k2]) rfl ⟨u, v, by rw [hE0], by rw [HA.out, if_pos hE0, ← HU.out], bl_set (bl_set (bl_call (bl_alloc (Below.refl _ _) _) hb) (Nat.le_refl _) _) (Nat.le_refl _) _⟩

theorem sum_c (A : Option Addr) (p : List Int) (cap : Nat) (m : Int) (w : World) (hlen : p.length ≤ 9223372036854775806) (hr : Rd w A (ints p)) :
    Calls Try.prog 28 #[.slice A p.length cap, .int .i64 m] w fun e w' => ∃ u v, e = .returned (.tuple #[.agg #[.int .i64 u, .int .i64 v], .int .i64 (inE p m)]) ∧ (u, v) = sumG p m ∧ Below w.heap.size w w' := by
  have HV := Lib.hid (validateIn_c A p cap m (w.alloc (.cells #[.int .i64 0, .int .i64 0] 30)) (hr.later (bl_alloc (Below.refl _ _) _)))
  have HC := Lib.hid (sumOf_c A p cap m (w.alloc (.cells #[.int .i64 0, .int .i64 0] 30)) hlen (hr.later (bl_alloc (Below.refl _ _) _)))
  have HA : Hid (sumG p m = if inE p m = 0 then sumP (pathL m p) else (0, 0)) := rfl
  have x0 : Bx (w.alloc (.cells #[.int .i64 0, .int .i64 0] 30)) w.heap.size 30 #[.int .i64 0, .int .i64 0] := Bx.new w _ _
  generalize sumG p m = a at HA
  generalize inE p m = E at HV HA
  by_cases hE : (E != 0) = true
  · go_enter Try.func28, Try.ntmps28
    go_wp2_with (fail)
    refine HV.out.mono ?_
    rintro e w' ⟨rfl, rfl⟩
    clear HV HC
    go_wp2_with (fail)
    exact bodyPost_ret (v := .tuple #[.agg #[.int .i64 0, .int .i64 0], .int .i64 E]) (by simp [results, Try.results28, go_sem]) rfl ⟨0, 0, rfl, by rw [HA.out, if_neg (by simpa using hE)], by repeat (first | exact Below.refl _ _ | refine bl_alloc ?_ _ | refine bl_set ?_ (Nat.le_refl _) _)⟩
  · have hE' : (E != 0) = false := by simpa using hE
    clear hE
    go_enter Try.func28, Try.ntmps28
    go_wp2_with (fail)
    refine HV.out.mono ?_
    rintro e w' ⟨rfl, rfl⟩
    go_wp2_with (fail)
    refine HC.out.mono ?_
    rintro e w1 ⟨u, v, rfl, huv, hb⟩
    obtain ⟨h1, h2, h3, h4⟩ := (x0.call hb).two
    have HU := Lib.hid huv
    clear huv HV HC
    go_wp2_with (fail)
    have hE0 : E = 0 := by simpa using hE'
    obtain ⟨k1, k2, _, _⟩ := ((x0.call hb).set2 (.int .i64 u) (.int .i64 v)).two
    exact bodyPost_ret (v := .tuple #[.agg #[.int .i64 u, .int .i64 v], .int .i64 0]) (by simp [results, Try.results28, go_sem, k1, k2]) rfl ⟨u, v, by rw [hE0], by rw [HA.out, if_pos hE0, ← HU.out], bl_set (bl_set (bl_call (bl_alloc (Below.refl _ _) _) hb) (Nat.le_refl _) _) (Nat.le_refl _) _⟩
end Go.Proofs.Ytpjdojjdhbmbjaa
