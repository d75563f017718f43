/- Bounds and widths: package drift's Bounds and Width. -/
import Derived.Test.YtbbhaongakmhpaaBnd
import Derived.Test.YtbbhaongakmhpaaAgr
import Derived.Test.YtbbhaongakmhpaaDrfT
namespace Go.Proofs.Ytbbhaongakmhpaa
open Go.RowKit

theorem wid_small {l : List T3} {r t : Int} (hl : Ok l) (h0 : 0 ≤ r) (h9 : r ≤ 9) (ht : 0 ≤ t) (ht2 : t ≤ 2000) : wrap64 (highB l r t - lowB l r t) = highB l r t - lowB l r t := by
  obtain ⟨a, b, c, d⟩ := bounds_small hl h0 h9 ht ht2
  exact IntWalk.wrap64_in _ ⟨by omega, by omega⟩
set_option maxHeartbeats 1000000 in
theorem widthAt_c (A : Option Addr) (l : List T3) (cap : Nat) (r t : Int) (w : World) (hl : Ok l) (r0 : 0 ≤ r) (r9 : r ≤ 9) (ht : 0 ≤ t) (ht2 : t ≤ 2000) (hr : Rd w A (cellsT l)) :
    Calls Try.prog 74 #[.slice A l.length cap, .int .i64 r, .int .i64 t] w fun e w' => e = .returned (.int .i64 (widL l r t)) ∧ Below w.heap.size w w' := by
  have HB := Lib.hid (boundsAt_c A l cap r t w hl.ne (Nat.le_trans hl.len (by decide)) (hl.fit r0 r9) ht ht2 hr)
  have hw := wid_small hl r0 r9 ht ht2
  have HW : Hid (widL l r t = highB l r t - lowB l r t) := rfl
  generalize highB l r t = H at *
  generalize lowB l r t = L at *
  have hs : IntKind.i64.wrap (H - L) = H - L := by rw [IntWalk.i64_left]; exact hw
  clear hl
  go_enter Try.func74, Try.ntmps74
  go_wp2_with (go_at_call 71; refine HB.out.mono ?_; rintro e w1 ⟨rfl, hb1⟩)
  go_ret
  exact ⟨ret_i HW.out, bl_alloc hb1 _⟩
/-- What Bounds and Width answer. -/
def bndT (l : List T3) (r t : Int) : Value :=
  if timE l r t = 0 ∧ agreeB l r = true then .tuple #[.int .i64 (lowB l r t), .int .i64 (highB l r t), .bool true, .int .i64 0] else .tuple #[.int .i64 0, .int .i64 0, .bool false, .int .i64 (timE l r t)]
def widG (l : List T3) (r t : Int) : Int × Bool := if timE l r t = 0 ∧ agreeB l r = true then (widL l r t, true) else (0, false)
set_option maxHeartbeats 1000000 in
theorem Bounds_c (A : Option Addr) (l : List T3) (cap : Nat) (r t : Int) (w : World) (hlen : l.length ≤ 1000) (hr : Rd w A (cellsT l)) :
    Calls Try.prog 31 #[.slice A l.length cap, .int .i64 r, .int .i64 t] w fun e w' => e = .returned (bndT l r t) ∧ Below w.heap.size w w' := by
  have HV := Lib.hid (validateAt_c A l cap r t w hlen hr)
  by_cases hv : timE l r t = 0
  · obtain ⟨⟨ho, h0, h9⟩, ht, ht2⟩ := timE_ok.1 hv
    have HA := fun w' h => Lib.hid (agree_c A l cap r w' hlen (ho.fit h0 h9) (hr.later (w' := w') h))
    have HB := fun w' h => Lib.hid (boundsAt_c A l cap r t w' ho.ne hlen (ho.fit h0 h9) ht ht2 (hr.later (w' := w') h))
    have HE : Hid (bndT l r t = if 0 = (0 : Int) ∧ agreeB l r = true then .tuple #[.int .i64 (lowB l r t), .int .i64 (highB l r t), .bool true, .int .i64 0] else .tuple #[.int .i64 0, .int .i64 0, .bool false, .int .i64 0]) := by show _ = _; unfold bndT; rw [hv]
    rw [hv] at HV
    clear hv ho h0 h9 ht ht2
    generalize bndT l r t = res at *
    generalize highB l r t = H at *
    generalize lowB l r t = L at *
    generalize agreeB l r = b at *
    rcases b with _ | _
    · have HN := Lib.hid (HE.out.trans (if_neg (by decide)))
      clear HE
      go_enter Try.func31, Try.ntmps31
      go_wp2_with (first | (go_at_call 70; refine HV.out.mono ?_; rintro e w1 ⟨rfl, hb1⟩) | (go_at_call 56; refine (HA _ hb1).out.mono ?_; rintro e w2 ⟨rfl, hb2⟩))
      refine bodyPost_ret (results_tmp4 rfl _ _ _) rfl ?_
      exact ⟨by rw [HN.out]; rfl, bl_call hb1 hb2⟩
    · have HN := Lib.hid (HE.out.trans (if_pos (by decide)))
      clear HE
      go_enter Try.func31, Try.ntmps31
      go_wp2_with (first | (go_at_call 70; refine HV.out.mono ?_; rintro e w1 ⟨rfl, hb1⟩) | (go_at_call 56; refine (HA _ hb1).out.mono ?_; rintro e w2 ⟨rfl, hb2⟩; have hb12 := bl_call hb1 hb2) | (go_at_call 71; refine (HB _ hb12).out.mono ?_; rintro e w3 ⟨rfl, hb3⟩))
      have hbz := bl_alloc (bl_call hb12 hb3) (.cells #[.int .i64 L, .int .i64 H] 65)
      go_quiet (fail)
      go_wp2_with (fail)
      refine bodyPost_ret (results_tmp4 rfl _ _ _) rfl ?_
      exact ⟨by rw [HN.out]; rfl, below_drewN hbz _⟩
  · have hv' : (timE l r t != 0) = true := by simpa using hv
    have HN : Hid (bndT l r t = .tuple #[.int .i64 0, .int .i64 0, .bool false, .int .i64 (timE l r t)]) := if_neg (by simp [hv])
    generalize bndT l r t = res at *
    generalize timE l r t = v at *
    go_enter Try.func31, Try.ntmps31
    go_wp2_with (go_at_call 70; refine HV.out.mono ?_; rintro e w1 ⟨rfl, hb1⟩)
    refine bodyPost_ret (results_tmp4 rfl _ _ _) rfl ?_
    exact ⟨by rw [HN.out]; rfl, hb1⟩
set_option maxHeartbeats 1000000 in
theorem Width_c (A : Option Addr) (l : List T3) (cap : Nat) (r t : Int) (w : World) (hlen : l.length ≤ 1000) (hr : Rd w A (cellsT l)) :
    Calls Try.prog 33 #[.slice A l.length cap, .int .i64 r, .int .i64 t] w fun e w' => e = .returned (.tuple #[.int .i64 (widG l r t).1, .bool (widG l r t).2, .int .i64 (timE l r t)]) ∧ Below w.heap.size w w' := by
  have HV := Lib.hid (validateAt_c A l cap r t w hlen hr)
  by_cases hv : timE l r t = 0
  · obtain ⟨⟨ho, h0, h9⟩, ht, ht2⟩ := timE_ok.1 hv
    have HA := fun w' h => Lib.hid (agree_c A l cap r w' hlen (ho.fit h0 h9) (hr.later (w' := w') h))
    have HB := fun w' h => Lib.hid (widthAt_c A l cap r t w' ho h0 h9 ht ht2 (hr.later (w' := w') h))
    have HE : Hid (widG l r t = if 0 = (0 : Int) ∧ agreeB l r = true then (widL l r t, true) else (0, false)) := by show _ = _; unfold widG; rw [hv]
    rw [hv] at HV ⊢
    clear hv ho h0 h9 ht ht2
    generalize widG l r t = res at *
    generalize widL l r t = H at *
    generalize agreeB l r = b at *
    rcases b with _ | _
    · have HN := Lib.hid (HE.out.trans (if_neg (by decide)))
      clear HE
      go_enter Try.func33, Try.ntmps33
      go_wp2_with (first | (go_at_call 70; refine HV.out.mono ?_; rintro e w1 ⟨rfl, hb1⟩) | (go_at_call 56; refine (HA _ hb1).out.mono ?_; rintro e w2 ⟨rfl, hb2⟩))
      go_ret3
      exact ⟨by rw [HN.out]; rfl, bl_call hb1 hb2⟩
    · have HN := Lib.hid (HE.out.trans (if_pos (by decide)))
      clear HE
      go_enter Try.func33, Try.ntmps33
      go_wp2_with (first | (go_at_call 70; refine HV.out.mono ?_; rintro e w1 ⟨rfl, hb1⟩) | (go_at_call 56; refine (HA _ hb1).out.mono ?_; rintro e w2 ⟨rfl, hb2⟩; have hb12 := bl_call hb1 hb2) | (go_at_call 74; refine (HB _ hb12).out.mono ?_; rintro e w3 ⟨rfl, hb3⟩))
      go_ret3
      exact ⟨by rw [HN.out]; rfl, bl_call hb12 hb3⟩
  · have hv' : (timE l r t != 0) = true := by simpa using hv
    have HN : Hid (widG l r t = (0, false)) := if_neg (by simp [hv])
    generalize widG l r t = res at *
    generalize timE l r t = v at *
    go_enter Try.func33, Try.ntmps33
    go_wp2_with (go_at_call 70; refine HV.out.mono ?_; rintro e w1 ⟨rfl, hb1⟩)
    go_ret3
    exact ⟨by rw [HN.out]; rfl, hb1⟩
end Go.Proofs.Ytbbhaongakmhpaa
