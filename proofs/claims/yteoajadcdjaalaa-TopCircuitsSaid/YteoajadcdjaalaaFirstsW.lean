/- The walk of the law on the first gates of a circuit. -/
import Derived.Test.YteoajadcdjaalaaFst
import Derived.Test.YteoajadcdjaalaaKnownG
namespace Go.Proofs.Yteoajadcdjaalaa
open Go.RowKit

theorem long_c (A : Option Addr) (m c : Nat) (w : World) : Calls Try.prog 21 #[.slice A m c] w fun e w' => e = .returned (.bool (decide (50 < m))) ∧ w = w' := by
  by_cases h : 50 < m
  · have h' : (50 : Int) < (m : Int) := by omega
    go_enter Try.func21, Try.ntmps21
    go_wp2_with (fail)
    go_ret
    exact ⟨ret_b (by simp [h]), rfl⟩
  · have h' : ¬ (50 : Int) < (m : Int) := by omega
    go_enter Try.func21, Try.ntmps21
    go_wp2_with (fail)
    go_ret
    exact ⟨ret_b (by simp), rfl⟩

set_option maxRecDepth 100000 in
set_option maxHeartbeats 2000000 in
theorem circuitFirsts_walk (n : Int) (A : Option Addr) (l : List G) (c : Nat) (w : World) (_hn : (Lit.int .i64 n).wf = true) (hr : Rd w A (cellsG l)) :
    Calls Try.prog 9 #[.int .i64 n, .slice A l.length c] w fun e w' => e = .returned (.bool true) ∧ Below w.heap.size w w' := by
  have HL := fun w => Lib.hid (long_c A l.length c w)
  have HK := fun w => Lib.hid (known_c w)
  by_cases hlong : 50 < l.length
  · rw [decide_eq_true hlong] at HL
    go_enter Try.func9, Try.ntmps9
    go_wp2_with (fail)
    refine (HL _).out.mono ?_
    rintro e w1 ⟨rfl, rfl⟩
    go_wp2_with (fail)
    refine (HK _).out.mono ?_
    rintro e w2 ⟨rfl, hb2⟩
    go_wp2_with (fail)
    go_ret
    exact ⟨rfl, hb2⟩
  · rw [decide_eq_false hlong] at HL
    have hlen : l.length ≤ 1000 := by omega
    clear hlong
    have H1 := Lib.hid (Firsts_c n A l c w hlen hr)
    rw [firstsG_eq] at H1
    have H2 := fun w1 hr1 => Lib.hid (rFirsts_c n A l c w1 hlen hr1)
    have H3 := fun w1 hr1 => Lib.hid (Layers_c n A l c w1 hlen hr1)
    have HF1 : Hid (validE n l = 0 → rfirstsG n l = frTo l l.length ∧ lysL n l = layL l) := fun h => ⟨by rw [rfirstsG, if_pos h], by rw [lysL, if_pos h]⟩
    have HFl : (rfirstsG n l).length ≤ 1000 := by
      have := frTo_len l l.length
      rw [rfirstsG]; split
      · omega
      · simp
    have HZ := Lib.hid (fun h => @lay_nil l h)
    have HP := Lib.hid (fun h => @lay_first l h)
    go_enter Try.func9, Try.ntmps9
    go_wp2_with (fail)
    refine (HL _).out.mono ?_
    rintro e w1 ⟨rfl, rfl⟩
    go_wp2_with (fail)
    refine H1.out.mono ?_
    rintro e w1 ⟨A1, c1, rfl, ho1, hb1⟩
    go_wp2_with (fail)
    refine (H2 _ (hr.later hb1)).out.mono ?_
    rintro e w2 ⟨A2, c2, rfl, ho2, hb2⟩
    have hb12 := bl_call hb1 hb2
    have hr1 := (own_rd ho1).1.later hb2
    have hr2 := (own_rd ho2).1
    have HS := Lib.hid (sameInts_c A1 A2 _ _ c1 c2 w2 (by omega) hr1 hr2)
    rw [decide_eq_true (rfl : rfirstsG n l = rfirstsG n l)] at HS
    generalize rfirstsG n l = F at *
    generalize lysL n l = T at *
    go_wp2_with (fail)
    refine HS.out.mono ?_
    rintro e w3 ⟨rfl, hb3⟩
    have hb13 := bl_call hb12 hb3
    go_wp2_with (fail)
    refine (H3 _ (hr.later hb13)).out.mono ?_
    rintro e w4 ⟨A4, c4, hs, rfl, ho4, ht4, hb4⟩
    have hb14 := bl_call hb13 hb4
    by_cases hv : validE n l = 0
    · obtain ⟨hF, hT⟩ := HF1.out hv
      rw [hv]
      by_cases h0 : l.length = 0
      · have hT0 : T.length = 0 := by rw [hT, HZ.out h0]; rfl
        have h0' : ((l.length : Int) == 0) = true := by simp [h0]
        have hT0' : ((T.length : Int) == 0) = true := by simp [hT0]
        clear HZ HP HF1 hF hT
        go_wp2_with (fail)
        refine (HK _).out.mono ?_
        rintro e w5 ⟨rfl, hb5⟩
        go_wp2_with (fail)
        go_ret
        exact ⟨rfl, bl_call hb14 hb5⟩
      · obtain ⟨hp1, hp2⟩ := HP.out (by omega)
        rw [← hT] at hp1 hp2
        rw [← hF] at hp2
        have h0' : ((l.length : Int) == 0) = false := by rw [beq_eq_false_iff_ne]; omega
        have hT0' : (0 : Int) < (T.length : Int) := by omega
        obtain ⟨A5, c5, h51, h52⟩ := ht4.2.1 0 hp1
        obtain ⟨OB, rfl, _, _, _, hcell⟩ := own_cell ho4 hp1
        have hc0 := hcell 0 _ h51
        rw [hp2] at hc0
        clear HZ HP HF1 hF hT hp2 hcell h51 h52 ht4
        go_wp2_with (fail)
        refine (HK _).out.mono ?_
        rintro e w5 ⟨rfl, hb5⟩
        go_wp2_with (fail)
        go_ret
        exact ⟨rfl, bl_call hb14 hb5⟩
    · clear HF1
      generalize validE n l = ev at *
      go_wp2_with (fail)
      refine (HK _).out.mono ?_
      rintro e w5 ⟨rfl, hb5⟩
      go_wp2_with (fail)
      go_ret
      exact ⟨rfl, bl_call hb14 hb5⟩
end Go.Proofs.Yteoajadcdjaalaa
