/- The walk of the law on the gates that are too hot. -/
import Derived.Test.YtlhnbknilcmleaaRhot2
import Derived.Test.YtlhnbknilcmleaaKnownH
namespace Go.Proofs.Ytlhnbknilcmleaa
open Go.RowKit

theorem fits_next {n : Int} {l : List T3} {lim : Int} (h : fitsG n l lim = true) (h2 : lim < 100) : limE n l (lim + 1) = 0 ∧ fitsG n l (lim + 1) = true := by
  simp only [fitsG, Bool.and_eq_true, decide_eq_true_eq] at h
  obtain ⟨hv, h0, _⟩ := limE_zero.1 h.1
  have h' : limE n l (lim + 1) = 0 := limE_zero.2 ⟨hv, by omega, by omega⟩
  have hc := (least_cold h0 l.length).1 h.2
  have hc' : hotL (lim + 1) l = [] := (least_cold (by omega) l.length).2 (by omega)
  exact ⟨h', by rw [fitsG, decide_eq_true h', decide_eq_true hc']; rfl⟩
theorem fits_ok {n : Int} {l : List T3} {lim : Int} (h : fitsG n l lim = true) : 0 ≤ lim := by
  simp only [fitsG, Bool.and_eq_true, decide_eq_true_eq] at h
  exact (limE_zero.1 h.1).2.1
set_option maxRecDepth 100000 in
set_option maxHeartbeats 2000000 in
theorem heatHot_walk (n : Int) (A : Option Addr) (l : List T3) (c : Nat) (lim : Int) (w : World) (_hcap : l.length ≤ c) (_hn : (Lit.int .i64 n).wf = true) (hr : Rd w A (cellsT l)) (_hl : (Lit.int .i64 lim).wf = true) :
    Calls Try.prog 4 #[.int .i64 n, .slice A l.length c, .int .i64 lim] w fun e w' => e = .returned (.bool true) ∧ Below w.heap.size w w' := by
  have HL := fun w => Lib.hid (long_c A l.length c w)
  have HK := fun w => Lib.hid (known_c w)
  by_cases hlong : 100 < l.length
  · rw [decide_eq_true hlong] at HL
    go_enter Try.func4, Try.ntmps4
    go_wp2_with (fail)
    refine (HL _).out.mono ?_
    rintro e w1 ⟨rfl, rfl⟩
    go_wp2_with (fail)
    refine (HK _).out.mono ?_
    rintro e w2 ⟨rfl, hb2⟩
    go_wp2_with (fail)
    go_ret
    exact ⟨rfl, hb2⟩
  · rw [decide_eq_false hlong] at HL
    have hlen : l.length ≤ 1000 := by omega
    clear hlong
    have H1 := Lib.hid (Hot_c n A l c lim w hlen hr)
    have H2 := fun w1 h => Lib.hid (rHot_c n A l c lim w1 hlen h)
    have H3 := fun w1 h => Lib.hid (Fits_c n A l c lim w1 hlen h)
    have H4 := fun w1 h => Lib.hid (rFits_c n A l c lim w1 hlen h)
    have H5 := fun w1 h => Lib.hid (Fits_c n A l c (lim + 1) w1 hlen h)
    have hgl : (hotsG n l lim).length ≤ 1000 := by
      have := hotTo_len lim l l.length
      rw [hotsG]; split
      · show (hotTo lim l l.length).length ≤ 1000; omega
      · simp
    have HS := fun A1 A2 c1 c2 w h1 h2 => Lib.hid (sameInts_c A1 A2 (hotsG n l lim) (hotsG n l lim) c1 c2 w (by omega) h1 h2)
    rw [decide_eq_true (rfl : hotsG n l lim = hotsG n l lim)] at HS
    have HNX := Lib.hid (@fits_next n l lim)
    have HOK := Lib.hid (@fits_ok n l lim)
    generalize hotsG n l lim = F at *
    generalize limE n l lim = ev at *
    generalize fitsG n l lim = b at *
    cases b with
    | false =>
      go_enter Try.func4, Try.ntmps4
      go_wp2_with (fail)
      refine (HL _).out.mono ?_
      rintro e w1 ⟨rfl, rfl⟩
      go_wp2_with (fail)
      refine H1.out.mono ?_
      rintro e w1 ⟨A1, c1, rfl, ho1, hb1⟩
      go_wp2_with (fail)
      refine (H2 _ (hr.later hb1)).out.mono ?_
      rintro e w2 ⟨A2, c2, rfl, ho2, hb2⟩
      go_wp2_with (fail)
      refine (H3 _ (hr.later (bl_call hb1 hb2))).out.mono ?_
      rintro e w3 ⟨rfl, hb3⟩
      go_wp2_with (fail)
      refine (H4 _ (hr.later (bl_call (bl_call hb1 hb2) hb3))).out.mono ?_
      rintro e w4 ⟨rfl, hb4⟩
      have hs1 := (((own_rd ho1).1.later hb2).later hb3).later hb4
      have hs2 := ((own_rd ho2).1.later hb3).later hb4
      have hb14 := bl_call (bl_call (bl_call hb1 hb2) hb3) hb4
      go_wp2_with (fail)
      refine (HS A1 A2 c1 c2 _ hs1 hs2).out.mono ?_
      rintro e w5 ⟨rfl, hb5⟩
      go_wp2_with (fail)
      refine (HK _).out.mono ?_
      rintro e wk ⟨rfl, hbk⟩
      go_wp2_with (fail)
      go_ret
      exact ⟨rfl, bl_call (bl_call hb14 hb5) hbk⟩
    | true =>
      have hl0 := HOK.out rfl
      by_cases h100 : lim < 100
      · obtain ⟨e1, e2⟩ := HNX.out rfl h100
        rw [e1, e2] at H5
        clear e1 e2
        go_enter Try.func4, Try.ntmps4
        go_wp2_with (fail)
        refine (HL _).out.mono ?_
        rintro e w1 ⟨rfl, rfl⟩
        go_wp2_with (fail)
        refine H1.out.mono ?_
        rintro e w1 ⟨A1, c1, rfl, ho1, hb1⟩
        go_wp2_with (fail)
        refine (H2 _ (hr.later hb1)).out.mono ?_
        rintro e w2 ⟨A2, c2, rfl, ho2, hb2⟩
        go_wp2_with (fail)
        refine (H3 _ (hr.later (bl_call hb1 hb2))).out.mono ?_
        rintro e w3 ⟨rfl, hb3⟩
        go_wp2_with (fail)
        refine (H4 _ (hr.later (bl_call (bl_call hb1 hb2) hb3))).out.mono ?_
        rintro e w4 ⟨rfl, hb4⟩
        have hs1 := (((own_rd ho1).1.later hb2).later hb3).later hb4
        have hs2 := ((own_rd ho2).1.later hb3).later hb4
        have hb14 := bl_call (bl_call (bl_call hb1 hb2) hb3) hb4
        go_wp2_with (fail)
        refine (HS A1 A2 c1 c2 _ hs1 hs2).out.mono ?_
        rintro e w5 ⟨rfl, hb5⟩
        have hb15 := bl_call hb14 hb5
        go_wp2_with (fail)
        refine (H5 _ (hr.later hb15)).out.mono ?_
        rintro e w6 ⟨rfl, hb6⟩
        go_wp2_with (fail)
        refine (HK _).out.mono ?_
        rintro e wk ⟨rfl, hbk⟩
        go_wp2_with (fail)
        go_ret
        exact ⟨rfl, bl_call (bl_call hb15 hb6) hbk⟩
      · clear H5
        go_enter Try.func4, Try.ntmps4
        go_wp2_with (fail)
        refine (HL _).out.mono ?_
        rintro e w1 ⟨rfl, rfl⟩
        go_wp2_with (fail)
        refine H1.out.mono ?_
        rintro e w1 ⟨A1, c1, rfl, ho1, hb1⟩
        go_wp2_with (fail)
        refine (H2 _ (hr.later hb1)).out.mono ?_
        rintro e w2 ⟨A2, c2, rfl, ho2, hb2⟩
        go_wp2_with (fail)
        refine (H3 _ (hr.later (bl_call hb1 hb2))).out.mono ?_
        rintro e w3 ⟨rfl, hb3⟩
        go_wp2_with (fail)
        refine (H4 _ (hr.later (bl_call (bl_call hb1 hb2) hb3))).out.mono ?_
        rintro e w4 ⟨rfl, hb4⟩
        have hs1 := (((own_rd ho1).1.later hb2).later hb3).later hb4
        have hs2 := ((own_rd ho2).1.later hb3).later hb4
        have hb14 := bl_call (bl_call (bl_call hb1 hb2) hb3) hb4
        go_wp2_with (fail)
        refine (HS A1 A2 c1 c2 _ hs1 hs2).out.mono ?_
        rintro e w5 ⟨rfl, hb5⟩
        go_wp2_with (fail)
        refine (HK _).out.mono ?_
        rintro e wk ⟨rfl, hbk⟩
        go_wp2_with (fail)
        go_ret
        exact ⟨rfl, bl_call (bl_call hb14 hb5) hbk⟩
end Go.Proofs.Ytlhnbknilcmleaa
