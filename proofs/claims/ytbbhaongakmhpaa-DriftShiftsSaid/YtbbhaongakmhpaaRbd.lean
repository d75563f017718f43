/- Bounds and Width: the specification's. -/
import Derived.Test.YtbbhaongakmhpaaRbn
namespace Go.Proofs.Ytbbhaongakmhpaa
open Go.RowKit

set_option maxHeartbeats 1000000 in
theorem rBounds_c (A : Option Addr) (l : List T3) (cap : Nat) (r t : Int) (w : World) (hlen : l.length ≤ 1000) (hr : Rd w A (cellsT l)) :
    Calls Try.prog 32 #[.slice A l.length cap, .int .i64 r, .int .i64 t] w fun e w' => e = .returned (bndT l r t) ∧ Below w.heap.size w w' := by
  have HV := Lib.hid (timed_c A l cap r t w hlen hr)
  by_cases hv : timE l r t = 0
  · obtain ⟨⟨ho, h0, h9⟩, ht, ht2⟩ := timE_ok.1 hv
    have HA := fun w' h => Lib.hid (ragree_c A l cap r w' hlen (ho.fit h0 h9) (hr.later (w' := w') h))
    have HB := fun w' h => Lib.hid (rbounds_c A l cap r t w' ho.ne hlen (ho.fit h0 h9) ht ht2 (hr.later (w' := w') h))
    have HE : Hid (bndT l r t = if 0 = (0 : Int) ∧ agreeB l r = true then .tuple #[.int .i64 (lowB l r t), .int .i64 (highB l r t), .bool true, .int .i64 0] else .tuple #[.int .i64 0, .int .i64 0, .bool false, .int .i64 0]) := by show _ = _; unfold bndT; rw [hv]
    rw [hv] at HV
    clear hv ho h0 h9 ht ht2
    generalize bndT l r t = res at *
    generalize highB l r t = H at *
    generalize lowB l r t = L at *
    generalize agreeB l r = b at *
    rcases b with _ | _
    · have HN := Lib.hid (HE.out.trans (if_neg (by decide)))
      clear HE
      go_enter Try.func32, Try.ntmps32
      go_wp2_with (first | (go_at_call 72; refine HV.out.mono ?_; rintro e w1 ⟨rfl, hb1⟩) | (go_at_call 58; refine (HA _ hb1).out.mono ?_; rintro e w2 ⟨rfl, hb2⟩))
      refine bodyPost_ret (results_tmp4 rfl _ _ _) rfl ?_
      exact ⟨by rw [HN.out]; rfl, bl_call hb1 hb2⟩
    · have HN := Lib.hid (HE.out.trans (if_pos (by decide)))
      clear HE
      go_enter Try.func32, Try.ntmps32
      go_wp2_with (first | (go_at_call 72; refine HV.out.mono ?_; rintro e w1 ⟨rfl, hb1⟩) | (go_at_call 58; refine (HA _ hb1).out.mono ?_; rintro e w2 ⟨rfl, hb2⟩; have hb12 := bl_call hb1 hb2) | (go_at_call 73; refine (HB _ hb12).out.mono ?_; rintro e w3 ⟨rfl, hb3⟩))
      refine bodyPost_ret (results_tmp4 rfl _ _ _) rfl ?_
      exact ⟨by rw [HN.out]; rfl, bl_call hb12 hb3⟩
  · have hv' : (timE l r t != 0) = true := by simpa using hv
    have HN : Hid (bndT l r t = .tuple #[.int .i64 0, .int .i64 0, .bool false, .int .i64 (timE l r t)]) := if_neg (by simp [hv])
    generalize bndT l r t = res at *
    generalize timE l r t = v at *
    go_enter Try.func32, Try.ntmps32
    go_wp2_with (go_at_call 72; refine HV.out.mono ?_; rintro e w1 ⟨rfl, hb1⟩)
    refine bodyPost_ret (results_tmp4 rfl _ _ _) rfl ?_
    exact ⟨by rw [HN.out]; rfl, hb1⟩
set_option maxHeartbeats 1000000 in
theorem rWidth_c (A : Option Addr) (l : List T3) (cap : Nat) (r t : Int) (w : World) (hlen : l.length ≤ 1000) (hr : Rd w A (cellsT l)) :
    Calls Try.prog 34 #[.slice A l.length cap, .int .i64 r, .int .i64 t] w fun e w' => e = .returned (.tuple #[.int .i64 (widG l r t).1, .bool (widG l r t).2, .int .i64 (timE l r t)]) ∧ Below w.heap.size w w' := by
  have HB := Lib.hid (rBounds_c A l cap r t w hlen hr)
  by_cases hv : timE l r t = 0 ∧ agreeB l r = true
  · obtain ⟨⟨ho, h0, h9⟩, ht, ht2⟩ := timE_ok.1 hv.1
    have hE : widG l r t = (highB l r t - lowB l r t, true) := if_pos hv
    have hF : bndT l r t = .tuple #[.int .i64 (lowB l r t), .int .i64 (highB l r t), .bool true, .int .i64 0] := if_pos hv
    have hw := wid_small ho h0 h9 ht ht2
    have hs : IntKind.i64.wrap (highB l r t - lowB l r t) = highB l r t - lowB l r t := by rw [IntWalk.i64_left]; exact hw
    rw [hF] at HB
    rw [hE, hv.1]
    clear hF hE hv ho h0 h9 ht ht2
    generalize highB l r t = H at *
    generalize lowB l r t = L at *
    go_enter Try.func34, Try.ntmps34
    go_wp2_with (go_at_call 32; refine HB.out.mono ?_; rintro e w1 ⟨rfl, hb1⟩)
    go_ret3
    exact ⟨rfl, hb1⟩
  · have hE : widG l r t = (0, false) := if_neg hv
    have hF : bndT l r t = .tuple #[.int .i64 0, .int .i64 0, .bool false, .int .i64 (timE l r t)] := if_neg hv
    rw [hF] at HB
    rw [hE]
    clear hF hE hv
    generalize timE l r t = v at *
    go_enter Try.func34, Try.ntmps34
    go_wp2_with (go_at_call 32; refine HB.out.mono ?_; rintro e w1 ⟨rfl, hb1⟩)
    go_ret3
    exact ⟨rfl, hb1⟩
end Go.Proofs.Ytbbhaongakmhpaa
