/- The walk of the law on the acts of one ion. -/
import Derived.Test.YtlhnbknilcmleaaRonly
import Derived.Test.YtlhnbknilcmleaaKnownH
namespace Go.Proofs.Ytlhnbknilcmleaa
open Go.RowKit

set_option maxRecDepth 100000 in
set_option maxHeartbeats 2000000 in
theorem heatOnly_walk (n : Int) (A : Option Addr) (l : List T3) (c : Nat) (ion : Int) (w : World) (_hcap : l.length ≤ c) (_hn : (Lit.int .i64 n).wf = true) (hr : Rd w A (cellsT l)) (_hl : (Lit.int .i64 ion).wf = true) :
    Calls Try.prog 12 #[.int .i64 n, .slice A l.length c, .int .i64 ion] w fun e w' => e = .returned (.bool true) ∧ Below w.heap.size w w' := by
  have HL := fun w => Lib.hid (long_c A l.length c w)
  have HK := fun w => Lib.hid (known_c w)
  by_cases hlong : 100 < l.length
  · rw [decide_eq_true hlong] at HL
    go_enter Try.func12, Try.ntmps12
    go_wp2_with (fail)
    refine (HL _).out.mono ?_
    rintro e w1 ⟨rfl, rfl⟩
    go_wp2_with (fail)
    refine (HK _).out.mono ?_
    rintro e w2 ⟨rfl, hb2⟩
    go_wp2_with (fail)
    go_ret
    exact ⟨rfl, hb2⟩
  · rw [decide_eq_false hlong] at HL
    have hlen : l.length ≤ 1000 := by omega
    clear hlong
    have H1 := Lib.hid (Only_c n A l c ion w hlen hr)
    have H2 := fun w1 h => Lib.hid (rOnly_c n A l c ion w1 hlen h)
    have hgl : (onlyG n l ion).length ≤ 1000 := by
      have := only_len l ion
      rw [onlyG]; split
      · omega
      · simp
    have HS := fun A1 A2 c1 c2 w h1 h2 => Lib.hid (same_c A1 A2 (onlyG n l ion) (onlyG n l ion) c1 c2 w (by omega) h1 h2)
    rw [decide_eq_true (rfl : onlyG n l ion = onlyG n l ion)] at HS
    generalize onlyG n l ion = F at *
    generalize onlyE n l ion = ev at *
    go_enter Try.func12, Try.ntmps12
    go_wp2_with (fail)
    refine (HL _).out.mono ?_
    rintro e w1 ⟨rfl, rfl⟩
    go_wp2_with (fail)
    refine H1.out.mono ?_
    rintro e w1 ⟨A1, c1, rfl, ho1, hb1⟩
    go_wp2_with (fail)
    refine (H2 _ (hr.later hb1)).out.mono ?_
    rintro e w2 ⟨A2, c2, rfl, ho2, hb2⟩
    have hb12 := bl_call hb1 hb2
    have hs1 := (own_rd ho1).1.later hb2
    have hs2 := (own_rd ho2).1
    go_wp2_with (fail)
    refine (HS A1 A2 c1 c2 _ hs1 hs2).out.mono ?_
    rintro e w3 ⟨rfl, hb3⟩
    go_wp2_with (fail)
    refine (HK _).out.mono ?_
    rintro e wk ⟨rfl, hbk⟩
    go_wp2_with (fail)
    go_ret
    exact ⟨rfl, bl_call (bl_call hb12 hb3) hbk⟩
end Go.Proofs.Ytlhnbknilcmleaa
