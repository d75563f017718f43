/- The walk of the law on the coolings of all ions together. -/
import Derived.Test.YtlhnbknilcmleaaOnly
import Derived.Test.YtlhnbknilcmleaaKnownH
import Derived.Test.YtlhnbknilcmleaaHeatP
namespace Go.Proofs.Ytlhnbknilcmleaa
open Go.RowKit

set_option maxRecDepth 100000 in
set_option maxHeartbeats 2000000 in
theorem heatParts_walk (n : Int) (A : Option Addr) (l : List T3) (c : Nat) (lim : Int) (w : World) (_hcap : l.length ≤ c) (_hn : (Lit.int .i64 n).wf = true) (hr : Rd w A (cellsT l)) (_hl : (Lit.int .i64 lim).wf = true) :
    Calls Try.prog 13 #[.int .i64 n, .slice A l.length c, .int .i64 lim] w fun e w' => e = .returned (.bool true) ∧ Below w.heap.size w w' := by
  have HL := fun w => Lib.hid (long_c A l.length c w)
  have HK := fun w => Lib.hid (known_c w)
  by_cases hlong : 100 < l.length
  · rw [decide_eq_true hlong] at HL
    go_enter Try.func13, Try.ntmps13
    go_wp2_with (fail)
    refine (HL _).out.mono ?_
    rintro e w1 ⟨rfl, rfl⟩
    go_wp2_with (fail)
    refine (HK _).out.mono ?_
    rintro e w2 ⟨rfl, hb2⟩
    go_wp2_with (fail)
    go_ret
    exact ⟨rfl, hb2⟩
  · rw [decide_eq_false hlong] at HL
    have hlen : l.length ≤ 1000 := by omega
    clear hlong
    have H1 := Lib.hid (Fewest_c n A l c lim w hlen hr)
    by_cases hv : limE n l lim = 0
    · obtain ⟨hval, hl0, hl1⟩ := limE_zero.1 hv
      obtain ⟨⟨hn1, hn4⟩, h20, hb⟩ := validE_zero.1 hval
      have ha := validE_acts hval
      have HF : Hid (fewG n l lim = (few lim l : Int)) := fewG_ok hv
      obtain ⟨N, rfl⟩ : ∃ N : Nat, n = N := ⟨n.toNat, by omega⟩
      have HSA := Lib.hid (sumF_all (lim := lim) (n := N) (l := l) (by omega) (by omega) hb)
      have HSL := fun k => Lib.hid (sumF_le (lim := lim) ha k)
      have HO := fun (ion : Nat) w1 h => Lib.hid (Only_c (N : Int) A l c (ion : Int) w1 hlen h)
      have HOE : Hid (∀ ion : Nat, ion < N → onlyE (N : Int) l (ion : Int) = 0 ∧ onlyG (N : Int) l (ion : Int) = onlyL l ion) := fun ion h => by
        rcases onlyE_cases (N : Int) l (ion : Int) with ⟨a, _⟩ | ⟨_, a, _⟩ | ⟨_, _, a, b⟩
        · exact absurd hval a
        · simp [oneB] at a; omega
        · exact ⟨a, b⟩
      have HFE : Hid (∀ ion : Nat, ion < N → limE (N : Int) (onlyL l ion) lim = 0 ∧ fewG (N : Int) (onlyL l ion) lim = (few1 lim l ion : Int)) := fun ion h => by
        have e : limE (N : Int) (onlyL l ion) lim = 0 := limE_zero.2 ⟨only_valid hval ion, hl0, hl1⟩
        exact ⟨e, by rw [fewG_ok e, onlyL, few_only lim l (by omega) (by omega)]⟩
      have HFW := fun (ion : Nat) B d w1 h => Lib.hid (Fewest_c (N : Int) B (onlyL l ion) d lim w1 (Nat.le_trans (only_len l ion) hlen) h)
      have hN4 : N ≤ 4 := by omega
      rw [hv] at H1
      rw [HF.out] at H1
      have HFL : Hid (few lim l ≤ 20) := by
        have := few_len (lim := lim) ha l.length (Nat.le_refl _)
        rw [List.take_length] at this
        show _ ≤ _; omega
      clear hv hval hb HF hn1 hn4
      go_enter Try.func13, Try.ntmps13
      go_wp2_with (fail)
      refine (HL _).out.mono ?_
      rintro e w1 ⟨rfl, rfl⟩
      go_wp2_with (fail)
      refine H1.out.mono ?_
      rintro e w1 ⟨rfl, hb1⟩
      go_wp2_with (fail)
      go_loopg [9, 10] N (fun gk sv iv wr => ∃ i : Nat, Hid (i + gk = N) ∧ iv = .int .i64 (i : Int) ∧ sv = .int .i64 ((sumF lim l i : Nat) : Int) ∧ Below w.heap.size w wr)
      case atStart => exact ⟨0, by simp [Hid], rfl, rfl, hb1⟩
      case round =>
        obtain ⟨i, HI, rfl, rfl, hbr⟩ := hrel
        rcases gk with _ | gi
        · obtain rfl : i = N := HI.out
          rw [HSA.out]
          generalize few lim l = F at *
          go_wp2_with (fail)
          refine (HK _).out.mono ?_
          rintro e wk ⟨rfl, hbk⟩
          go_wp2_with (fail)
          go_ret
          exact ⟨rfl, bl_call hbr hbk⟩
        · have hiN : i < N := by have := HI.out; omega
          have hiN' : (i : Int) < (N : Int) := by omega
          have hi4 : (i : Int) < 4 := by omega
          obtain ⟨e1, e2⟩ := HOE.out i hiN
          obtain ⟨e3, e4⟩ := HFE.out i hiN
          have HO1 := fun w1 h => HO i w1 h
          have HF1 := fun B d w1 h => HFW i B d w1 h
          rw [e1, e2] at HO1
          rw [e3, e4] at HF1
          have hs := (HSL i).out
          have hs2 : sumF lim l i ≤ 80 := by
            have : i * l.length ≤ 4 * 20 := Nat.mul_le_mul (by omega) h20
            omega
          have hsn : sumF lim l (i + 1) = sumF lim l i + few1 lim l i := rfl
          have HSN := Lib.hid hsn
          have hf1 : few1 lim l i ≤ 20 := by have := (gr_range ha lim (i : Int)).2.2; rw [few1]; omega
          clear hsn e1 e2 e3 e4 HO HFW hs
          generalize few1 lim l (i : Int) = f1 at *
          generalize sumF lim l i = s1 at *
          generalize onlyL l (i : Int) = O1 at *
          go_wp2_with (fail)
          refine (HO1 _ (hr.later hbr)).out.mono ?_
          rintro e w2 ⟨A2, c2, rfl, ho2, hb2⟩
          go_wp2_with (fail)
          refine (HF1 _ _ _ (own_rd ho2).1).out.mono ?_
          rintro e w3 ⟨rfl, hb3⟩
          go_wp2_with (fail)
          go_roundg gi
          case rel => exact ⟨i + 1, by have := HI.out; show _ = _; omega, by go_num, by rw [HSN.out]; go_num, bl_call (bl_call hbr hb2) hb3⟩
          case measure => omega
    · have hv' : (limE n l lim != 0) = true := by simpa using hv
      generalize fewG n l lim = F at *
      generalize limE n l lim = ev at *
      go_enter Try.func13, Try.ntmps13
      go_wp2_with (fail)
      refine (HL _).out.mono ?_
      rintro e w1 ⟨rfl, rfl⟩
      go_wp2_with (fail)
      refine H1.out.mono ?_
      rintro e w1 ⟨rfl, hb1⟩
      go_wp2_with (fail)
      refine (HK _).out.mono ?_
      rintro e wk ⟨rfl, hbk⟩
      go_wp2_with (fail)
      go_ret
      exact ⟨rfl, bl_call hb1 hbk⟩
end Go.Proofs.Ytlhnbknilcmleaa
