/- Closes: package budget's and the specification's. -/
import Derived.Test.YtgbjglkiaoplmaaWth
namespace Go.Proofs.Ytgbjglkiaoplmaa
open Go.RowKit

theorem vfE_nil (l : List It) : vfE l [] = valE l := by
  unfold vfE
  split
  · rename_i h; rw [h]; rfl
  · rfl
/-- What Closes answers. -/
def clsE (l : List It) (n d : Int) : Int := if valE l = 0 then (if limB n d = true then 0 else 1) else valE l
def clsG (l : List It) (n d : Int) : Bool := if clsE l n d = 0 then closeB l n d else false
theorem byE_nil (l : List It) (n d : Int) : byE l [] n d = clsE l n d := by unfold byE clsE; rw [vfE_nil]
theorem clsE_ok {l : List It} {n d : Int} (h : clsE l n d = 0) : valE l = 0 ∧ limB n d = true := by
  unfold clsE at h
  split at h
  · rename_i h0
    split at h
    · rename_i h1; exact ⟨h0, h1⟩
    · cases h
  · rename_i h0; exact absurd h h0
set_option maxHeartbeats 2000000 in
theorem Closes_c (A : Option Addr) (l : List It) (cap : Nat) (n d : Int) (w : World) (hlen : l.length ≤ 1000) (hr : Rd w A (cellsI l)) :
    Calls Try.prog 31 #[.slice A l.length cap, .agg #[.int .i64 n, .int .i64 d]] w fun e w' => e = .returned (.tuple #[.bool (clsG l n d), .int .i64 (clsE l n d)]) ∧ Below w.heap.size w w' := by
  have hb0 := bl_alloc (Below.refl w.heap.size w) (.cells #[.int .i64 n, .int .i64 d] 30)
  have x0 : Bx (w.alloc (.cells #[.int .i64 n, .int .i64 d] 30)) w.heap.size 30 #[.int .i64 n, .int .i64 d] := Bx.new w _ _
  obtain ⟨y0, y1, _, _⟩ := x0.two
  have HV := Lib.hid (validateBy_c A l cap none [] 0 n d _ hlen (by simp) (hr.later hb0) (Or.inl rfl))
  rw [byE_nil] at HV
  by_cases he : clsE l n d = 0
  · have hG : clsG l n d = closeB l n d := by unfold clsG; rw [if_pos he]
    obtain ⟨h1, h2⟩ := clsE_ok he
    have HC := fun w hr => Lib.hid (closes_c A l cap 8 n d w (val_ok h1) (valE_ok h1).1 (by decide) h2 hr)
    rw [he] at HV
    rw [hG, he]
    clear hG he h1 h2
    generalize closeB l n d = z at *
    go_enter Try.func31, Try.ntmps31
    go_wp2_with (fail)
    refine HV.out.mono ?_
    rintro e w1 ⟨rfl, hb1⟩
    obtain ⟨v0, v1, _, _⟩ := (x0.call hb1).two
    have hb01 := bl_call hb0 hb1
    go_wp2_with (fail)
    refine (HC _ (hr.later hb01)).out.mono ?_
    rintro e w2 ⟨rfl, hb2⟩
    go_wp2_with (fail)
    go_ret2
    exact ⟨rfl, bl_call hb01 hb2⟩
  · have hG : clsG l n d = false := by unfold clsG; rw [if_neg he]
    have he' : (clsE l n d == 0) = false := by rw [beq_eq_false_iff_ne]; exact he
    rw [hG]
    generalize clsE l n d = z at *
    go_enter Try.func31, Try.ntmps31
    go_wp2_with (fail)
    refine HV.out.mono ?_
    rintro e w1 ⟨rfl, hb1⟩
    go_wp2_with (fail)
    go_ret2
    exact ⟨rfl, bl_call hb0 hb1⟩
set_option maxHeartbeats 2000000 in
theorem rCloses_c (A : Option Addr) (l : List It) (cap : Nat) (n d : Int) (w : World) (hlen : l.length ≤ 1000) (hr : Rd w A (cellsI l)) :
    Calls Try.prog 32 #[.slice A l.length cap, .agg #[.int .i64 n, .int .i64 d]] w fun e w' => e = .returned (.tuple #[.bool (clsG l n d), .int .i64 (clsE l n d)]) ∧ Below w.heap.size w w' := by
  have hb0 := bl_alloc (Below.refl w.heap.size w) (.cells #[.int .i64 n, .int .i64 d] 30)
  have x0 : Bx (w.alloc (.cells #[.int .i64 n, .int .i64 d] 30)) w.heap.size 30 #[.int .i64 n, .int .i64 d] := Bx.new w _ _
  have HV := Lib.hid (rValidate_c A l cap _ hlen (hr.later hb0))
  have HL := fun w => Lib.hid (risLimit_c n d w)
  by_cases hv : valE l = 0
  rotate_left
  · have hE : clsE l n d = valE l := by unfold clsE; rw [if_neg hv]
    have hG : clsG l n d = false := by unfold clsG; rw [hE, if_neg hv]
    have hv' : (valE l == 0) = false := by rw [beq_eq_false_iff_ne]; exact hv
    rw [hG, hE]
    clear hG hE
    generalize valE l = z at *
    go_enter Try.func32, Try.ntmps32
    go_wp2_with (fail)
    refine HV.out.mono ?_
    rintro e w1 ⟨rfl, hb1⟩
    go_wp2_with (fail)
    go_ret2
    exact ⟨rfl, bl_call hb0 hb1⟩
  rcases hl : limB n d with _ | _
  · have hE : clsE l n d = 1 := by unfold clsE; rw [if_pos hv, hl]; rfl
    have hG : clsG l n d = false := by unfold clsG; rw [hE]; rfl
    rw [hG, hE]
    rw [hv] at HV
    rw [hl] at HL
    clear hG hE hl hv
    go_enter Try.func32, Try.ntmps32
    go_wp2_with (fail)
    refine HV.out.mono ?_
    rintro e w1 ⟨rfl, hb1⟩
    obtain ⟨v0, v1, _, _⟩ := (x0.call hb1).two
    go_wp2_with (fail)
    refine (HL _).out.mono ?_
    rintro e w2 ⟨rfl, hb2⟩
    go_wp2_with (fail)
    go_ret2
    exact ⟨rfl, bl_call (bl_call hb0 hb1) hb2⟩
  · have hE : clsE l n d = 0 := by unfold clsE; rw [if_pos hv, hl]; rfl
    have hG : clsG l n d = closeB l n d := by unfold clsG; rw [if_pos hE]
    have HC := fun w hr => Lib.hid (rcloses_c A l cap 8 n d w (val_ok hv) (valE_ok hv).1 (by decide) hl hr)
    rw [hG, hE]
    rw [hv] at HV
    rw [hl] at HL
    clear hG hE hl hv
    generalize closeB l n d = z at *
    go_enter Try.func32, Try.ntmps32
    go_wp2_with (fail)
    refine HV.out.mono ?_
    rintro e w1 ⟨rfl, hb1⟩
    obtain ⟨v0, v1, _, _⟩ := (x0.call hb1).two
    go_wp2_with (fail)
    refine (HL _).out.mono ?_
    rintro e w2 ⟨rfl, hb2⟩
    obtain ⟨u0, u1, _, _⟩ := ((x0.call hb1).call hb2).two
    have hb02 := bl_call (bl_call hb0 hb1) hb2
    go_wp2_with (fail)
    refine (HC _ (hr.later hb02)).out.mono ?_
    rintro e w3 ⟨rfl, hb3⟩
    go_wp2_with (fail)
    go_ret2
    exact ⟨rfl, bl_call hb02 hb3⟩
end Go.Proofs.Ytgbjglkiaoplmaa
