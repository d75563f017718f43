/- The walk of the law on traces and peaks. -/
import Derived.Test.YtlhnbknilcmleaaRpk2
import Derived.Test.YtlhnbknilcmleaaKnownH
namespace Go.Proofs.Ytlhnbknilcmleaa
open Go.RowKit

theorem traceG_len (n : Int) (l : List T3) : (traceG n l).length ≤ l.length := by
  rw [traceG]; split
  · rw [rowsT_len]; exact Nat.le_refl _
  · simp
theorem traceG_row (n : Int) (l : List T3) (k : Nat) (h : k < (traceG n l).length) : ((traceG n l).getD k []).length ≤ 1000 := by
  by_cases hv : validE n l = 0
  · have HG : traceG n l = rowsT n.toNat l l.length := by rw [traceG, if_pos hv]
    have hn := (validE_zero.1 hv).1
    rw [HG] at h ⊢
    rw [rowsT_len] at h
    rw [rowsT_get h, rowT_len]
    omega
  · rw [traceG, if_neg hv] at h; simp at h
set_option maxRecDepth 100000 in
set_option maxHeartbeats 4000000 in
theorem heatTraces_walk (n : Int) (A : Option Addr) (l : List T3) (c : Nat) (w : World) (hcap : l.length ≤ c) (_hn : (Lit.int .i64 n).wf = true) (hr : Rd w A (cellsT l)) :
    Calls Try.prog 3 #[.int .i64 n, .slice A l.length c] w fun e w' => e = .returned (.bool true) ∧ Below w.heap.size w w' := by
  have HL := fun w => Lib.hid (long_c A l.length c w)
  have HK := fun w => Lib.hid (known_c w)
  by_cases hlong : 100 < l.length
  · rw [decide_eq_true hlong] at HL
    go_enter Try.func3, Try.ntmps3
    go_wp2_with (fail)
    refine (HL _).out.mono ?_
    rintro e w1 ⟨rfl, rfl⟩
    go_wp2_with (fail)
    refine (HK _).out.mono ?_
    rintro e w2 ⟨rfl, hb2⟩
    go_wp2_with (fail)
    go_ret
    exact ⟨rfl, hb2⟩
  · rw [decide_eq_false hlong] at HL
    have hlen : l.length ≤ 1000 := by omega
    clear hlong
    have H1 := Lib.hid (Trace_c n A l c w hlen hr)
    have H2 := fun w1 h => Lib.hid (rTrace_c n A l c w1 hlen hcap h)
    have H3 := fun w1 h => Lib.hid (Peak_c n A l c w1 hlen h)
    have H4 := fun w1 h => Lib.hid (rPeak_c n A l c w1 hlen hcap h)
    have H5 := fun w1 h => Lib.hid (validate_c n A l c w1 hlen h)
    have H6 := fun w1 h => Lib.hid (rvalidate_c n A l c w1 hlen h)
    have hgl := traceG_len n l
    have HROW := Lib.hid (traceG_row n l)
    have HS := fun A1 A2 hs hs' b1 b2 c1 c2 w1 h1 h2 h3 h4 => Lib.hid (sameLists_c A1 A2 hs hs' (traceG n l) b1 b2 c1 c2 w1 (by omega) h1 h2 h3 h4 HROW.out)
    generalize traceG n l = F at *
    generalize peakG n l = p at *
    generalize validE n l = ev at *
    go_enter Try.func3, Try.ntmps3
    go_wp2_with (fail)
    refine (HL _).out.mono ?_
    rintro e wl ⟨rfl, rfl⟩
    go_wp2_with (fail)
    refine H1.out.mono ?_
    rintro e w1 ⟨A1, c1, hs1, rfl, hrd1, ⟨b1, ht1⟩, hb1⟩
    go_wp2_with (fail)
    refine (H2 _ (hr.later hb1)).out.mono ?_
    rintro e w2 ⟨A2, c2, hs2, rfl, hrd2, ⟨b2, ht2⟩, hb2⟩
    have hb12 := bl_call hb1 hb2
    go_wp2_with (fail)
    refine (H3 _ (hr.later hb12)).out.mono ?_
    rintro e w3 ⟨rfl, hb3⟩
    have hb13 := bl_call hb12 hb3
    go_wp2_with (fail)
    refine (H4 _ (hr.later hb13)).out.mono ?_
    rintro e w4 ⟨rfl, hb4⟩
    have hb14 := bl_call hb13 hb4
    go_wp2_with (fail)
    refine (H5 _ (hr.later hb14)).out.mono ?_
    rintro e w5 ⟨rfl, hb5⟩
    have hb15 := bl_call hb14 hb5
    go_wp2_with (fail)
    refine (H6 _ (hr.later hb15)).out.mono ?_
    rintro e w6 ⟨rfl, hb6⟩
    have hb26 := bl_call (bl_call (bl_call hb3 hb4) hb5) hb6
    have hb16 := bl_call hb2 hb26
    go_wp2_with (fail)
    refine (HS A1 A2 hs1 hs2 b1 b2 c1 c2 _ (hrd1.later hb16) (hrd2.later hb26) (ht1.call hb16) (ht2.call hb26)).out.mono ?_
    rintro e w7 ⟨rfl, hb7⟩
    go_wp2_with (fail)
    refine (HK _).out.mono ?_
    rintro e wk ⟨rfl, hbk⟩
    go_wp2_with (fail)
    go_ret
    exact ⟨rfl, bl_call (bl_call (bl_call hb1 hb16) hb7) hbk⟩
end Go.Proofs.Ytlhnbknilcmleaa
