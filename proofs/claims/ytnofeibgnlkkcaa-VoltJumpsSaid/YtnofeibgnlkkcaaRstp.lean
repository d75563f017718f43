/- The steps from some voltages to others: the specification's contract. -/
import Derived.Test.YtnofeibgnlkkcaaRrm
namespace Go.Proofs.Ytnofeibgnlkkcaa
open Go.RowKit

theorem ramp_len (a b : List Int) (s : Int) : ((rampG a b s).length : Int) - (if okSlew a b s = true then 1 else 0) = stepsG a b s ∧ (rampG a b s).length ≤ 7 := by
  unfold rampG stepsG
  split
  · rename_i h
    obtain ⟨h2, h1, h6⟩ := okSlew_iff.1 h
    have hN := (steps_all (jumpL_pos a b) h2.jump h1 h6).2.1
    rw [rampTo_len]
    exact ⟨by push_cast; omega, by omega⟩
  · exact ⟨rfl, by simp⟩
theorem rSteps_c (A B : Option Addr) (a b : List Int) (cap cap' : Nat) (s : Int) (w : World) (hl : a.length ≤ 1000) (hl' : b.length ≤ 1000) (hr : Rd w A (ints a)) (hs : Rd w B (ints b)) :
    Calls Try.prog 40 #[.slice A a.length cap, .slice B b.length cap', .int .i64 s] w fun e w' => e = .returned (.tuple #[.int .i64 (stepsG a b s), .int .i64 (errB (okSlew a b s))]) ∧ Below w.heap.size w w' := by
  have HV := Lib.hid (rRamp_c A B a b cap cap' s w hl hl' hr hs)
  unfold OutTab at HV
  obtain ⟨h1, h2⟩ := ramp_len a b s
  have hst : okSlew a b s = false → stepsG a b s = 0 := fun h => by unfold stepsG; rw [if_neg (by rw [h]; decide)]
  generalize (rampG a b s) = M at *
  generalize okSlew a b s = x at *
  generalize stepsG a b s = n at *
  cases x with
  | false =>
    rw [hst rfl]
    clear h1 hst
    go_enter Try.func40, Try.ntmps40
    go_wp2_with (fail)
    refine HV.out.mono ?_
    rintro e w1 ⟨A1, c1, R1, rfl, _, _, _, hb1⟩
    rw [errB_f]
    go_wp2_with (fail)
    go_ret2
    exact ⟨rfl, hb1⟩
  | true =>
    rw [if_pos rfl] at h1
    subst h1
    have q1 : wrap64 ((M.length : Int) - 1) = (M.length : Int) - 1 := IntWalk.wrap64_in _ ⟨by omega, by omega⟩
    clear hst
    go_enter Try.func40, Try.ntmps40
    go_wp2_with (fail)
    refine HV.out.mono ?_
    rintro e w1 ⟨A1, c1, R1, rfl, _, _, _, hb1⟩
    rw [errB_t]
    go_wp2_with (fail)
    go_ret2
    exact ⟨rfl, hb1⟩
end Go.Proofs.Ytnofeibgnlkkcaa
