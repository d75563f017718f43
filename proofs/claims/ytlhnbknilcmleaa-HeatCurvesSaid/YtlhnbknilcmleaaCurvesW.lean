/- The walk of the law on the fewest coolings for all limits. -/
import Derived.Test.YtlhnbknilcmleaaRcur
import Derived.Test.YtlhnbknilcmleaaKnownH
namespace Go.Proofs.Ytlhnbknilcmleaa
open Go.RowKit

set_option maxRecDepth 100000 in
set_option maxHeartbeats 2000000 in
theorem heatCurves_walk (n : Int) (A : Option Addr) (l : List T3) (c : Nat) (w : World) (hcap : l.length ≤ c) (_hn : (Lit.int .i64 n).wf = true) (hr : Rd w A (cellsT l)) :
    Calls Try.prog 11 #[.int .i64 n, .slice A l.length c] w fun e w' => e = .returned (.bool true) ∧ Below w.heap.size w w' := by
  have HL := fun w => Lib.hid (long_c A l.length c w)
  have HK := fun w => Lib.hid (known_c w)
  by_cases hlong : 100 < l.length
  · rw [decide_eq_true hlong] at HL
    go_enter Try.func11, Try.ntmps11
    go_wp2_with (fail)
    refine (HL _).out.mono ?_
    rintro e w1 ⟨rfl, rfl⟩
    go_wp2_with (fail)
    refine (HK _).out.mono ?_
    rintro e w2 ⟨rfl, hb2⟩
    go_wp2_with (fail)
    go_ret
    exact ⟨rfl, hb2⟩
  · rw [decide_eq_false hlong] at HL
    have hlen : l.length ≤ 1000 := by omega
    clear hlong
    have H1 := Lib.hid (Curve_c n A l c w hlen hr)
    have H2 := fun w1 h => Lib.hid (rCurve_c n A l c w1 hlen hcap h)
    have hgl : (curveG n l).length ≤ 1000 := by
      have := curveL_len l
      rw [curveG]; split
      · omega
      · simp
    have HM : Hid (∀ i, i + 1 < (curveG n l).length → (curveG n l).getD (i + 1) 0 ≤ (curveG n l).getD i 0) := fun i hi => by
      by_cases hv : validE n l = 0
      · have e : curveG n l = curveL l := by rw [curveG, if_pos hv]
        rw [e] at hi ⊢
        exact curveL_mono (validE_acts hv) i hi
      · have e : curveG n l = [] := by rw [curveG, if_neg hv]
        rw [e] at hi; simp at hi
    have HS := fun A1 A2 c1 c2 w h1 h2 => Lib.hid (sameInts_c A1 A2 (curveG n l) (curveG n l) c1 c2 w (by omega) h1 h2)
    rw [decide_eq_true (rfl : curveG n l = curveG n l)] at HS
    generalize curveG n l = F at *
    generalize validE n l = ev at *
    go_enter Try.func11, Try.ntmps11
    go_wp2_with (fail)
    refine (HL _).out.mono ?_
    rintro e w1 ⟨rfl, rfl⟩
    go_wp2_with (fail)
    refine H1.out.mono ?_
    rintro e w1 ⟨A1, c1, rfl, ho1, hb1⟩
    go_wp2_with (fail)
    refine (H2 _ (hr.later hb1)).out.mono ?_
    rintro e w2 ⟨A2, c2, rfl, ho2, hb2⟩
    have hb12 := bl_call hb1 hb2
    have hs1 := (own_rd ho1).1.later hb2
    have hs2 := (own_rd ho2).1
    go_wp2_with (fail)
    refine (HS A1 A2 c1 c2 _ hs1 hs2).out.mono ?_
    rintro e w3 ⟨rfl, hb3⟩
    have hb13 := bl_call hb12 hb3
    have hs3 := hs1.later hb3
    clear HS H2 ho1 ho2 hs1 hs2
    go_wp2_with (fail)
    go_loopg [9] (F.length + 1) (fun gk iv wr => ∃ i : Nat, Hid (i + gk = F.length + 1) ∧ iv = .int .i64 ((i : Int) + 1) ∧ Below w.heap.size w wr ∧ Rd wr A1 (ints F))
    case atStart => exact ⟨0, by simp [Hid], rfl, hb13, hs3⟩
    case round =>
      obtain ⟨i, HI, rfl, hb, hs⟩ := hrel
      by_cases hlt : i + 1 < F.length
      · have hlt' : (i : Int) + 1 < (F.length : Int) := by omega
        rcases gk with _ | gi
        · exfalso; have := HI.out; omega
        · obtain ⟨b, o, rfl, _, hc⟩ := hs.at_ (k := i) (by simp; omega)
          have hc0 := hc i _ (ints_get (by omega))
          have hc1 := hc (i + 1) _ (ints_get hlt)
          have hmo := HM.out i hlt
          clear hc
          generalize F.getD i 0 = x at *
          generalize F.getD (i + 1) 0 = y at *
          have hmo' : ¬ (x < y) := by omega
          have hw1 : wrap64 ((i : Int) + 1 - 1) = (i : Int) := by rw [IntWalk.wrap64_in _ (by omega)]; omega
          go_wp2_with (fail)
          go_quiet (fail)
          go_wp2_with (fail)
          go_roundg gi
          case rel => exact ⟨i + 1, by have := HI.out; show _ = _; omega, by go_num, below_drewN hb _, hs.later (below_drewN (Below.refl _ _) _)⟩
          case measure => omega
      · have hlt' : ¬ ((i : Int) + 1 < (F.length : Int)) := by omega
        go_wp2_with (fail)
        refine (HK _).out.mono ?_
        rintro e wk ⟨rfl, hbk⟩
        go_wp2_with (fail)
        go_ret
        exact ⟨rfl, bl_call hb hbk⟩
end Go.Proofs.Ytlhnbknilcmleaa
