/- The functions of the specification that tell a pulse's end, area and sum. -/
import Derived.Test.YtpjdojjdhbmbjaaMath2
namespace Go.Proofs.Ytpjdojjdhbmbjaa
open Go.RowKit

def areaGR (p : List Int) (m : Int) : Int := if inE p m = 0 then areaR m p else 0
def endGR (p : List Int) (m : Int) : Int × Int := if inE p m = 0 then endR m p else (0, 0)
def sumGR (p : List Int) (m : Int) : Int × Int := if inE p m = 0 then sumR m p else (0, 0)
theorem area_g (p : List Int) (m : Int) : areaG p m = areaGR p m := by
  unfold areaG areaGR; split
  · rename_i h; exact area_same (ok_of h)
  · rfl
theorem end_g (p : List Int) (m : Int) : endG p m = endGR p m := by
  unfold endG endGR; split
  · rename_i h; exact end_same (ok_of h)
  · rfl
theorem sum_g (p : List Int) (m : Int) : sumG p m = sumGR p m := by
  unfold sumG sumGR; split
  · rename_i h; exact sum_same (ok_of h)
  · rfl

theorem rArea_c (A : Option Addr) (p : List Int) (cap : Nat) (m : Int) (w : World) (hlen : p.length ≤ 1000) (hr : Rd w A (ints p)) :
    Calls Try.prog 27 #[.slice A p.length cap, .int .i64 m] w fun e w' => e = .returned (.tuple #[.int .i64 (areaGR p m), .int .i64 (inE p m)]) ∧ Below w.heap.size w w' := by
  have HV := Lib.hid (moded_c A p cap m w hr)
  have HA : Hid (areaGR p m = if inE p m = 0 then areaR m p else 0) := rfl
  generalize areaGR p m = a at HA
  generalize inE p m = E at HV HA
  by_cases hE : (E != 0) = true
  · go_enter Try.func27, Try.ntmps27
    go_wp2_with (go_at_call 58; refine HV.out.mono ?_; rintro e w' ⟨rfl, rfl⟩)
    go_ret2
    exact ⟨by rw [HA.out, if_neg (by simpa using hE)]; rfl, Below.refl _ _⟩
  · have hE' : (E != 0) = false := by simpa using hE
    clear hE
    go_enter Try.func27, Try.ntmps27
    go_wp2_with (first | (go_at_call 58; refine HV.out.mono ?_; rintro e w' ⟨rfl, rfl⟩) | (go_at_call 63; refine (rarea_c _ _ _ _ _ hlen hr).mono ?_; rintro e w' ⟨rfl, hb⟩))
    go_ret2
    have hE0 : E = 0 := by simpa using hE'
    exact ⟨by rw [HA.out, if_pos hE0, hE0]; rfl, hb⟩

theorem rEnd_c (A : Option Addr) (p : List Int) (cap : Nat) (m : Int) (w : World) (hlen : p.length ≤ 1000) (hr : Rd w A (ints p)) :
    Calls Try.prog 22 #[.slice A p.length cap, .int .i64 m] w fun e w' => ∃ u v, e = .returned (.tuple #[.agg #[.int .i64 u, .int .i64 v], .int .i64 (inE p m)]) ∧ (u, v) = endGR p m ∧ Below w.heap.size w w' := by
  have HV := Lib.hid (moded_c A p cap m (w.alloc (.cells #[.int .i64 0, .int .i64 0] 30)) (hr.later (bl_alloc (Below.refl _ _) _)))
  have HC := Lib.hid (rend_c A p cap m (w.alloc (.cells #[.int .i64 0, .int .i64 0] 30)) hlen (hr.later (bl_alloc (Below.refl _ _) _)))
  have HA : Hid (endGR p m = if inE p m = 0 then endR m p else (0, 0)) := rfl
  have x0 : Bx (w.alloc (.cells #[.int .i64 0, .int .i64 0] 30)) w.heap.size 30 #[.int .i64 0, .int .i64 0] := Bx.new w _ _
  generalize endGR p m = a at HA
  generalize inE p m = E at HV HA
  by_cases hE : (E != 0) = true
  · go_enter Try.func22, Try.ntmps22
    go_wp2_with (fail)
    refine HV.out.mono ?_
    rintro e w' ⟨rfl, rfl⟩
    clear HV HC
    go_wp2_with (fail)
    exact bodyPost_ret (v := .tuple #[.agg #[.int .i64 0, .int .i64 0], .int .i64 E]) (by simp [results, Try.results22, go_sem]) rfl ⟨0, 0, rfl, by rw [HA.out, if_neg (by simpa using hE)], by repeat (first | exact Below.refl _ _ | refine bl_alloc ?_ _ | refine bl_set ?_ (Nat.le_refl _) _)⟩
  · have hE' : (E != 0) = false := by simpa using hE
    clear hE
    go_enter Try.func22, Try.ntmps22
    go_wp2_with (fail)
    refine HV.out.mono ?_
    rintro e w' ⟨rfl, rfl⟩
    go_wp2_with (fail)
    refine HC.out.mono ?_
    rintro e w1 ⟨u, v, rfl, huv, hb⟩
    obtain ⟨h1, h2, h3, h4⟩ := (x0.call hb).two
    have HU := Lib.hid huv
    clear huv HV HC
    go_wp2_with (fail)
    have hE0 : E = 0 := by simpa using hE'
    obtain ⟨k1, k2, _, _⟩ := ((x0.call hb).set2 (.int .i64 u) (.int .i64 v)).two
    exact bodyPost_ret (v := .tuple #[.agg #[.int .i64 u, .int .i64 v], .int .i64 0]) (by simp [results, Try.results22, go_sem, k1, k2]) rfl ⟨u, v, by rw [hE0], by rw [HA.out, if_pos hE0, ← HU.out], bl_set (bl_set (bl_call (bl_alloc (Below.refl _ _) _) hb) (Nat.le_refl _) _) (Nat.le_refl _) _⟩

theorem rSum_c (A : Option Addr) (p : List Int) (cap : Nat) (m : Int) (w : World) (hlen : p.length ≤ 1000) (hr : Rd w A (ints p)) :
    Calls Try.prog 29 #[.slice A p.length cap, .int .i64 m] w fun e w' => ∃ u v, e = .returned (.tuple #[.agg #[.int .i64 u, .int .i64 v], .int .i64 (inE p m)]) ∧ (u, v) = sumGR p m ∧ Below w.heap.size w w' := by
  have HV := Lib.hid (moded_c A p cap m (w.alloc (.cells #[.int .i64 0, .int .i64 0] 30)) (hr.later (bl_alloc (Below.refl _ _) _)))
  have HC := Lib.hid (rsum_c A p cap m (w.alloc (.cells #[.int .i64 0, .int .i64 0] 30)) hlen (hr.later (bl_alloc (Below.refl _ _) _)))
  have HA : Hid (sumGR p m = if inE p m = 0 then sumR m p else (0, 0)) := rfl
  have x0 : Bx (w.alloc (.cells #[.int .i64 0, .int .i64 0] 30)) w.heap.size 30 #[.int .i64 0, .int .i64 0] := Bx.new w _ _
  generalize sumGR p m = a at HA
  generalize inE p m = E at HV HA
  by_cases hE : (E != 0) = true
  · go_enter Try.func29, Try.ntmps29
    go_wp2_with (fail)
    refine HV.out.mono ?_
    rintro e w' ⟨rfl, rfl⟩
    clear HV HC
    go_wp2_with (fail)
    exact bodyPost_ret (v := .tuple #[.agg #[.int .i64 0, .int .i64 0], .int .i64 E]) (by simp [results, Try.results29, go_sem]) rfl ⟨0, 0, rfl, by rw [HA.out, if_neg (by simpa using hE)], by repeat (first | exact Below.refl _ _ | refine bl_alloc ?_ _ | refine bl_set ?_ (Nat.le_refl _) _)⟩
  · have hE' : (E != 0) = false := by simpa using hE
    clear hE
    go_enter Try.func29, Try.ntmps29
    go_wp2_with (fail)
    refine HV.out.mono ?_
    rintro e w' ⟨rfl, rfl⟩
    go_wp2_with (fail)
    refine HC.out.mono ?_
    rintro e w1 ⟨u, v, rfl, huv, hb⟩
    obtain ⟨h1, h2, h3, h4⟩ := (x0.call hb).two
    have HU := Lib.hid huv
    clear huv HV HC
    go_wp2_with (fail)
    have hE0 : E = 0 := by simpa using hE'
    obtain ⟨k1, k2, _, _⟩ := ((x0.call hb).set2 (.int .i64 u) (.int .i64 v)).two
    exact bodyPost_ret (v := .tuple #[.agg #[.int .i64 u, .int .i64 v], .int .i64 0]) (by simp [results, Try.results29, go_sem, k1, k2]) rfl ⟨u, v, by rw [hE0], by rw [HA.out, if_pos hE0, ← HU.out], bl_set (bl_set (bl_call (bl_alloc (Below.refl _ _) _) hb) (Nat.le_refl _) _) (Nat.le_refl _) _⟩
end Go.Proofs.Ytpjdojjdhbmbjaa
