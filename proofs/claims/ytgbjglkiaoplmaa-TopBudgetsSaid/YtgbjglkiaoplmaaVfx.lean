/- The first error of a budget and fixes, and of a limit: package budget's. -/
import Derived.Test.YtgbjglkiaoplmaaFix
namespace Go.Proofs.Ytgbjglkiaoplmaa
open Go.RowKit

theorem vfE_bad {l : List It} {fs : List Fx} {k : Nat} (hv : valE l = 0) (hl : ¬ 8 < fs.length) (hk : k < fs.length) (h : fixB l (fs.getD k fx0) = false) : vfE l fs = 1 := by
  unfold vfE
  rw [if_pos hv, if_neg hl, if_neg]
  intro h'
  have := allFx_iff.1 h' k hk
  rw [h] at this; cases this
theorem vfE_good {l : List It} {fs : List Fx} (hv : valE l = 0) (hl : ¬ 8 < fs.length) (h : ∀ k, k < fs.length → fixB l (fs.getD k fx0) = true) : vfE l fs = 0 := by
  unfold vfE
  rw [if_pos hv, if_neg hl, if_pos (allFx_iff.2 h)]
set_option maxRecDepth 100000 in
set_option maxHeartbeats 2000000 in
theorem ValidateFixes_c (A : Option Addr) (l : List It) (cap : Nat) (B : Option Addr) (fs : List Fx) (cap2 : Nat) (w : World) (hlen : l.length ≤ 1000) (hlen2 : fs.length ≤ 1000) (hr : Rd w A (cellsI l)) (hf : Rd w B (cellsF fs)) :
    Calls Try.prog 38 #[.slice A l.length cap, .slice B fs.length cap2] w fun e w' => e = .returned (.int .i64 (vfE l fs)) ∧ Below w.heap.size w w' := by
  have HV := Lib.hid (Validate_c A l cap w hlen hr)
  by_cases hv : valE l = 0
  rotate_left
  · have hE : vfE l fs = valE l := by unfold vfE; rw [if_neg hv]
    have hv' : (valE l == 0) = false := by rw [beq_eq_false_iff_ne]; exact hv
    rw [hE]
    clear hE
    generalize valE l = z at *
    go_enter Try.func38, Try.ntmps38
    go_wp2_with (fail)
    refine HV.out.mono ?_
    rintro e w1 ⟨rfl, hb1⟩
    go_wp2_with (fail)
    go_ret
    exact ⟨rfl, hb1⟩
  by_cases hl : 8 < fs.length
  · have hl' : (8 : Int) < (fs.length : Int) := by omega
    have hE : vfE l fs = 3 := by unfold vfE; rw [if_pos hv, if_pos hl]
    rw [hE]
    rw [hv] at HV
    clear hE hv
    go_enter Try.func38, Try.ntmps38
    go_wp2_with (fail)
    refine HV.out.mono ?_
    rintro e w1 ⟨rfl, hb1⟩
    go_wp2_with (fail)
    go_ret
    exact ⟨rfl, hb1⟩
  · have hl' : ¬ (8 : Int) < (fs.length : Int) := by omega
    have HB := Lib.hid (fun k => @vfE_bad l fs k hv hl)
    have HG := Lib.hid (@vfE_good l fs hv hl)
    have hok := val_ok hv
    have HX := Lib.hid (fun f w (h : Rd w A (cellsI l)) => Lib.hid (isFix_c A l cap f w hok h))
    rw [hv] at HV
    clear hv hok hlen
    generalize vfE l fs = res at *
    go_enter Try.func38, Try.ntmps38
    go_wp2_with (fail)
    refine HV.out.mono ?_
    rintro e w1 ⟨rfl, hb1⟩
    clear HV
    go_wp2_with (fail)
    go_loopg [18] fs.length (fun gk iv wr => ∃ k : Nat, Hid (k + gk = fs.length) ∧ iv = .int .i64 (k : Int) ∧ Hid (∀ i, i < k → fixB l (fs.getD i fx0) = true) ∧ Below w.heap.size w wr)
    case atStart => exact ⟨0, by simp [Hid], rfl, fun i hi => absurd hi (by omega), hb1⟩
    case round =>
      clear hb1
      obtain ⟨k, HK, rfl, hall, hb⟩ := hrel
      rcases gk with _ | gi
      · obtain rfl : k = fs.length := HK.out
        go_wp2_with (fail)
        go_ret
        exact ⟨ret_i (HG.out hall.out), hb⟩
      · have hkN : k < fs.length := by have := HK.out; omega
        have hkN' : (k : Int) < (fs.length : Int) := by omega
        obtain ⟨b, o, rfl, _, c0, c1, c2, c3⟩ := (hf.later hb).fix hkN
        have HBk := Lib.hid (HB.out k hkN)
        have HN : Hid (fixB l (fs.getD k fx0) = true → ∀ i, i < k + 1 → fixB l (fs.getD i fx0) = true) := fun h i hi => by
          rcases Nat.lt_or_ge i k with h' | h'
          · exact hall.out i h'
          · rw [show i = k by omega]; exact h
        have HXk := HX.out (fs.getD k fx0)
        have hbA := bl_alloc hb (.cells #[.int .i64 (fs.getD k fx0).i, .int .i64 (fs.getD k fx0).n, .int .i64 (fs.getD k fx0).d, .int .i64 (fs.getD k fx0).c] 77)
        have hrA := Lib.hid (HXk _ (hr.later hbA))
        clear HXk
        generalize fixB l (fs.getD k fx0) = z at *
        generalize (fs.getD k fx0).i = fi at *
        generalize (fs.getD k fx0).n = fn at *
        generalize (fs.getD k fx0).d = fd at *
        generalize (fs.getD k fx0).c = fc at *
        cases z with
        | false =>
          go_wp2_with (fail)
          refine hrA.out.out.mono ?_
          rintro e w2 ⟨rfl, hb2⟩
          go_wp2_with (fail)
          go_ret
          exact ⟨ret_i (HBk.out (by first | rfl | trivial)), bl_call hbA hb2⟩
        | true =>
          go_wp2_with (fail)
          refine hrA.out.out.mono ?_
          rintro e w2 ⟨rfl, hb2⟩
          go_wp2_with (fail)
          go_roundg gi
          case rel => exact ⟨k + 1, by have := HK.out; show _ = _; omega, by go_num, HN.out (by first | rfl | trivial), bl_call hbA hb2⟩
          case measure => omega
/-- The first error of a budget, fixes and a limit. -/
def byE (l : List It) (fs : List Fx) (n d : Int) : Int := if vfE l fs = 0 then (if limB n d = true then 0 else 1) else vfE l fs
set_option maxHeartbeats 2000000 in
theorem validateBy_c (A : Option Addr) (l : List It) (cap : Nat) (B : Option Addr) (fs : List Fx) (cap2 : Nat) (n d : Int) (w : World) (hlen : l.length ≤ 1000) (hlen2 : fs.length ≤ 1000) (hr : Rd w A (cellsI l)) (hf : Rd w B (cellsF fs)) :
    Calls Try.prog 70 #[.slice A l.length cap, .slice B fs.length cap2, .agg #[.int .i64 n, .int .i64 d]] w fun e w' => e = .returned (.int .i64 (byE l fs n d)) ∧ Below w.heap.size w w' := by
  have hb0 := bl_alloc (Below.refl w.heap.size w) (.cells #[.int .i64 n, .int .i64 d] 30)
  have x0 : Bx (w.alloc (.cells #[.int .i64 n, .int .i64 d] 30)) w.heap.size 30 #[.int .i64 n, .int .i64 d] := Bx.new w _ _
  have HV := Lib.hid (ValidateFixes_c A l cap B fs cap2 _ hlen hlen2 (hr.later hb0) (hf.later hb0))
  have HL := fun w => Lib.hid (isLimit_c n d w)
  unfold byE
  by_cases hv : vfE l fs = 0
  · rw [if_pos hv]
    rw [hv] at HV
    clear hv
    generalize limB n d = z at *
    cases z with
    | false =>
      go_enter Try.func70, Try.ntmps70
      go_wp2_with (fail)
      refine HV.out.mono ?_
      rintro e w1 ⟨rfl, hb1⟩
      obtain ⟨y0, y1, _, _⟩ := (x0.call hb1).two
      go_wp2_with (fail)
      refine (HL _).out.mono ?_
      rintro e w2 ⟨rfl, hb2⟩
      go_wp2_with (fail)
      go_ret
      exact ⟨rfl, bl_call (bl_call hb0 hb1) hb2⟩
    | true =>
      go_enter Try.func70, Try.ntmps70
      go_wp2_with (fail)
      refine HV.out.mono ?_
      rintro e w1 ⟨rfl, hb1⟩
      obtain ⟨y0, y1, _, _⟩ := (x0.call hb1).two
      go_wp2_with (fail)
      refine (HL _).out.mono ?_
      rintro e w2 ⟨rfl, hb2⟩
      go_wp2_with (fail)
      go_ret
      exact ⟨rfl, bl_call (bl_call hb0 hb1) hb2⟩
  · rw [if_neg hv]
    have hv' : (vfE l fs == 0) = false := by rw [beq_eq_false_iff_ne]; exact hv
    generalize vfE l fs = z at *
    go_enter Try.func70, Try.ntmps70
    go_wp2_with (fail)
    refine HV.out.mono ?_
    rintro e w1 ⟨rfl, hb1⟩
    go_wp2_with (fail)
    go_ret
    exact ⟨rfl, bl_call hb0 hb1⟩
end Go.Proofs.Ytgbjglkiaoplmaa
