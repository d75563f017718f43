/- The document's Fewest. -/
import Derived.Test.YtlhnbknilcmleaaRfew
import Derived.Test.YtlhnbknilcmleaaKnownH
namespace Go.Proofs.Ytlhnbknilcmleaa
open Go.RowKit

set_option maxRecDepth 100000 in
theorem rFewest_c (n : Int) (A : Option Addr) (l : List T3) (c : Nat) (lim : Int) (w : World) (hlen : l.length ≤ 1000) (hcap : l.length ≤ c) (hr : Rd w A (cellsT l)) :
    Calls Try.prog 35 #[.int .i64 n, .slice A l.length c, .int .i64 lim] w fun e w' => e = .returned (.tuple #[.int .i64 (fewG n l lim), .int .i64 (limE n l lim)]) ∧ Below w.heap.size w w' := by
  have HV := Lib.hid (rlimited_c n A l c lim w hlen hr)
  by_cases hv : limE n l lim = 0
  · obtain ⟨h20, ha, hl0, hl1⟩ := limE_len hv
    have HS := fun (w1 : World) (h : Rd w1 A (cellsT l)) => Lib.hid (rfewest_c A l c lim w1 (by omega) hcap ha hl0 h)
    have HB : fewG n l lim = (few lim l : Int) := by rw [fewG, if_pos hv]
    rw [hv] at HV
    rw [hv, HB]
    clear HB hv ha hl0 hl1
    generalize few lim l = F at *
    go_enter Try.func35, Try.ntmps35
    go_wp2_with (go_at_call 63; refine HV.out.mono ?_; rintro e w1 ⟨rfl, hb1⟩)
    refine (HS _ (hr.later hb1)).out.mono ?_
    rintro e w2 ⟨rfl, hb2⟩
    go_wp2_with (fail)
    go_ret2
    exact ⟨rfl, bl_call hb1 hb2⟩
  · have HB : fewG n l lim = 0 := by rw [fewG, if_neg hv]
    have hv' : (limE n l lim != 0) = true := by simpa using hv
    rw [HB]
    clear HB
    generalize limE n l lim = ev at *
    go_enter Try.func35, Try.ntmps35
    go_wp2_with (go_at_call 63; refine HV.out.mono ?_; rintro e w1 ⟨rfl, hb1⟩)
    go_ret2
    exact ⟨rfl, hb1⟩
theorem limE_next {n : Int} {l : List T3} {lim : Int} (h : limE n l lim = 0) (h2 : lim < 100) : limE n l (lim + 1) = 0 ∧ fewG n l (lim + 1) ≤ fewG n l lim := by
  obtain ⟨hv, h0, _⟩ := limE_zero.1 h
  have h' : limE n l (lim + 1) = 0 := limE_zero.2 ⟨hv, by omega, by omega⟩
  have := few_limits (lim := lim) (lim' := lim + 1) (by omega) (validE_acts hv)
  rw [fewG_ok h, fewG_ok h']
  exact ⟨h', by omega⟩
end Go.Proofs.Ytlhnbknilcmleaa
