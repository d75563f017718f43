/- The cheapest choice with its errors: package budget's Cheapest and Choice. -/
import Derived.Test.YtgbjglkiaoplmaaChp
import Derived.Test.YtgbjglkiaoplmaaCls
namespace Go.Proofs.Ytgbjglkiaoplmaa
open Go.RowKit

theorem byE_ok {l : List It} {fs : List Fx} {m e : Int} (h : byE l fs m e = 0) : vfE l fs = 0 ∧ limB m e = true := by
  unfold byE at h
  split at h
  · rename_i h0
    split at h
    · rename_i h1; exact ⟨h0, h1⟩
    · cases h
  · rename_i h0; exact absurd h h0
def chC (l : List It) (fs : List Fx) (m e : Int) : List Int := if byE l fs m e = 0 then chpC l fs m e else []
def chK (l : List It) (fs : List Fx) (m e : Int) : Int := if byE l fs m e = 0 then chpK l fs m e else 0
def chB (l : List It) (fs : List Fx) (m e : Int) : Bool := if byE l fs m e = 0 then chpB l fs m e else false
set_option maxHeartbeats 2000000 in
theorem Cheapest_c (A : Option Addr) (l : List It) (cap : Nat) (B : Option Addr) (fs : List Fx) (cap2 : Nat) (m e : Int) (w : World) (hlen : l.length ≤ 1000) (hlen2 : fs.length ≤ 1000) (hr : Rd w A (cellsI l)) (hf : Rd w B (cellsF fs)) :
    Calls Try.prog 41 #[.slice A l.length cap, .slice B fs.length cap2, .agg #[.int .i64 m, .int .i64 e]] w fun f w' => f = .returned (.tuple #[.int .i64 (chK l fs m e), .bool (chB l fs m e), .int .i64 (byE l fs m e)]) ∧ Below w.heap.size w w' := by
  have hb0 := bl_alloc (Below.refl w.heap.size w) (.cells #[.int .i64 m, .int .i64 e] 30)
  have x0 : Bx (w.alloc (.cells #[.int .i64 m, .int .i64 e] 30)) w.heap.size 30 #[.int .i64 m, .int .i64 e] := Bx.new w _ _
  obtain ⟨y0, y1, _, _⟩ := x0.two
  have HV := Lib.hid (validateBy_c A l cap B fs cap2 m e _ hlen hlen2 (hr.later hb0) (hf.later hb0))
  by_cases hv : byE l fs m e = 0
  · have hK : chK l fs m e = chpK l fs m e := by unfold chK; rw [if_pos hv]
    have hB : chB l fs m e = chpB l fs m e := by unfold chB; rw [if_pos hv]
    have HC := fun w hr hf => Lib.hid (cheapest_c A l cap B fs cap2 m e w (byE_ok hv).1 (byE_ok hv).2 hr hf)
    rw [hv] at HV ⊢
    rw [hK, hB]
    clear hv hK hB
    generalize chpK l fs m e = k at *
    generalize chpB l fs m e = z at *
    generalize chpC l fs m e = c at *
    go_enter Try.func41, Try.ntmps41
    go_wp2_with (fail)
    refine HV.out.mono ?_
    rintro f w1 ⟨rfl, hb1⟩
    have x1 := x0.call hb1
    have hb01 := bl_call hb0 hb1
    obtain ⟨y2, y3, _, _⟩ := x1.two
    clear HV x0 y0 y1 hb1
    go_wp2_with (fail)
    refine (HC _ (hr.later hb01) (hf.later hb01)).out.mono ?_
    rintro f w2 ⟨A2, c2, u, v, rfl, _, hb2⟩
    have hb02 := bl_call hb01 hb2
    have hb03 := bl_alloc hb02 (.cells #[.slice A2 c.length c2, .int .i64 k, .int .i64 u, .int .i64 v] 95)
    obtain ⟨a0, a1, a2, a3⟩ := (Bx.new w2 95 #[.slice A2 c.length c2, .int .i64 k, .int .i64 u, .int .i64 v]).four
    go_wp2_with (fail)
    go_ret3
    exact ⟨rfl, hb03⟩
  · have hK : chK l fs m e = 0 := by unfold chK; rw [if_neg hv]
    have hB : chB l fs m e = false := by unfold chB; rw [if_neg hv]
    have hv' : (byE l fs m e == 0) = false := by rw [beq_eq_false_iff_ne]; exact hv
    rw [hK, hB]
    clear hK hB
    generalize byE l fs m e = z at *
    go_enter Try.func41, Try.ntmps41
    go_wp2_with (fail)
    refine HV.out.mono ?_
    rintro f w1 ⟨rfl, hb1⟩
    go_wp2_with (fail)
    go_ret3
    exact ⟨rfl, bl_call hb0 hb1⟩
set_option maxHeartbeats 2000000 in
theorem Choice_c (A : Option Addr) (l : List It) (cap : Nat) (B : Option Addr) (fs : List Fx) (cap2 : Nat) (m e : Int) (w : World) (hlen : l.length ≤ 1000) (hlen2 : fs.length ≤ 1000) (hr : Rd w A (cellsI l)) (hf : Rd w B (cellsF fs)) :
    Calls Try.prog 43 #[.slice A l.length cap, .slice B fs.length cap2, .agg #[.int .i64 m, .int .i64 e]] w fun f w' => ∃ A' c', f = .returned (.tuple #[.slice A' (chC l fs m e).length c', .bool (chB l fs m e), .int .i64 (byE l fs m e)]) ∧ Rd w' A' (ints (chC l fs m e)) ∧ Below w.heap.size w w' := by
  have hb0 := bl_alloc (Below.refl w.heap.size w) (.cells #[.int .i64 m, .int .i64 e] 30)
  have x0 : Bx (w.alloc (.cells #[.int .i64 m, .int .i64 e] 30)) w.heap.size 30 #[.int .i64 m, .int .i64 e] := Bx.new w _ _
  obtain ⟨y0, y1, _, _⟩ := x0.two
  have HV := Lib.hid (validateBy_c A l cap B fs cap2 m e _ hlen hlen2 (hr.later hb0) (hf.later hb0))
  by_cases hv : byE l fs m e = 0
  · have hC : chC l fs m e = chpC l fs m e := by unfold chC; rw [if_pos hv]
    have hB : chB l fs m e = chpB l fs m e := by unfold chB; rw [if_pos hv]
    have HC := fun w hr hf => Lib.hid (cheapest_c A l cap B fs cap2 m e w (byE_ok hv).1 (byE_ok hv).2 hr hf)
    rw [hv] at HV ⊢
    rw [hC, hB]
    clear hv hC hB
    generalize chpK l fs m e = k at *
    generalize chpB l fs m e = z at *
    generalize chpC l fs m e = c at *
    go_enter Try.func43, Try.ntmps43
    go_wp2_with (fail)
    refine HV.out.mono ?_
    rintro f w1 ⟨rfl, hb1⟩
    have x1 := x0.call hb1
    have hb01 := bl_call hb0 hb1
    obtain ⟨y2, y3, _, _⟩ := x1.two
    clear HV x0 y0 y1 hb1
    go_wp2_with (fail)
    refine (HC _ (hr.later hb01) (hf.later hb01)).out.mono ?_
    rintro f w2 ⟨A2, c2, u, v, rfl, hrc, hb2⟩
    have hb02 := bl_call hb01 hb2
    have hb03 := bl_alloc hb02 (.cells #[.slice A2 c.length c2, .int .i64 k, .int .i64 u, .int .i64 v] 95)
    have hrc3 := hrc.later (bl_alloc (Below.refl w2.heap.size w2) (.cells #[.slice A2 c.length c2, .int .i64 k, .int .i64 u, .int .i64 v] 95))
    obtain ⟨a0, a1, a2, a3⟩ := (Bx.new w2 95 #[.slice A2 c.length c2, .int .i64 k, .int .i64 u, .int .i64 v]).four
    go_wp2_with (fail)
    go_ret3
    exact ⟨A2, c2, rfl, hrc3, hb03⟩
  · have hC : chC l fs m e = [] := by unfold chC; rw [if_neg hv]
    have hB : chB l fs m e = false := by unfold chB; rw [if_neg hv]
    have hv' : (byE l fs m e == 0) = false := by rw [beq_eq_false_iff_ne]; exact hv
    rw [hC, hB]
    clear hC hB
    generalize byE l fs m e = z at *
    go_enter Try.func43, Try.ntmps43
    go_wp2_with (fail)
    refine HV.out.mono ?_
    rintro f w1 ⟨rfl, hb1⟩
    go_wp2_with (fail)
    go_ret3
    exact ⟨none, 0, rfl, .inl rfl, bl_call hb0 hb1⟩
end Go.Proofs.Ytgbjglkiaoplmaa
