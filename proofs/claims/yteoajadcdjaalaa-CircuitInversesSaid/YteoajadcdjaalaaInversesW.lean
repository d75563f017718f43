/- The walk of the law on the inverse. -/
import Derived.Test.YteoajadcdjaalaaRinv
import Derived.Test.YteoajadcdjaalaaJoinsW
namespace Go.Proofs.Yteoajadcdjaalaa
open Go.RowKit

theorem invE_len (n : Int) {l : List G} (h : l.length ≤ 1000) : (invE n l).length ≤ 1000 := by
  rw [invE]; split
  · rw [invL_len]; exact h
  · simp

set_option maxRecDepth 100000 in
set_option maxHeartbeats 4000000 in
theorem circuitInverses_walk (n : Int) (A : Option Addr) (l : List G) (c : Nat) (w : World) (_hn : (Lit.int .i64 n).wf = true) (hr : Rd w A (cellsG l)) :
    Calls Try.prog 13 #[.int .i64 n, .slice A l.length c] w fun e w' => e = .returned (.bool true) ∧ RowKit.Below w.heap.size w w' := by
  have HL := fun w => Lib.hid (long_c A l.length c w)
  have HK := fun w => Lib.hid (known_c w)
  by_cases hlong : 50 < l.length
  · rw [decide_eq_true hlong] at HL
    go_enter Try.func13, Try.ntmps13
    go_wp2_with (fail)
    refine (HL _).out.mono ?_
    rintro e w1 ⟨rfl, rfl⟩
    go_wp2_with (fail)
    refine (HK _).out.mono ?_
    rintro e w2 ⟨rfl, hb2⟩
    go_wp2_with (fail)
    go_ret
    exact ⟨rfl, hb2⟩
  · rw [decide_eq_false hlong] at HL
    have hlen : l.length ≤ 1000 := by omega
    clear hlong
    have H1 := Lib.hid (Inverse_c n A l c w hlen hr)
    have H2 := fun w1 hr1 => Lib.hid (rInverse_c n A l c w1 hlen hr1)
    have hil := invE_len n hlen
    have hjl := joinG_len n l (invE n l)
    have H3 := fun B d w1 h1 => Lib.hid (Inverse_c n B (invE n l) d w1 hil h1)
    have H4 := fun B d w1 h1 h2 => Lib.hid (Join_c n A B l (invE n l) c d w1 hlen hil h1 h2)
    have H5 := fun B d w1 h1 => Lib.hid (Reduce_c n B (joinG n l (invE n l)) d w1 (by omega) h1)
    have HV : Hid (validE n l = 0 → validE n (invE n l) = 0 ∧ invE n (invE n l) = l ∧ joinE n l (invE n l) = (if 10 < l.length + l.length then 3 else 0) ∧ (joinE n l (invE n l) = 0 → validE n (joinG n l (invE n l)) = 0 ∧ redL n (joinG n l (invE n l)) = [])) := fun h => by
      have e1 : invE n l = invL l := by rw [invE, if_pos h]
      have v1 := validE_inv h
      rw [e1]
      refine ⟨v1, by rw [invE, if_pos v1, invL_inv], inv_join h, fun hj => ?_⟩
      obtain ⟨_, h10, hjg⟩ := joinE_zero hj
      have v2 := validE_app h v1 h10
      rw [hjg]
      exact ⟨v2, by rw [redL, if_pos v2, inv_red h]⟩
    generalize redL n (joinG n l (invE n l)) = R at *
    generalize validE n (joinG n l (invE n l)) = er at *
    generalize joinG n l (invE n l) = J at *
    generalize joinE n l (invE n l) = ej at *
    generalize invE n (invE n l) = II at *
    generalize validE n (invE n l) = ei at *
    generalize invE n l = I at *
    generalize validE n l = ev at *
    have HS := fun B1 B2 d1 d2 w1 h1 h2 => Lib.hid (same_c B1 B2 I I d1 d2 w1 hil h1 h2)
    rw [show sameL I I = true by simp [sameL]] at HS
    have HS2 := fun B1 B2 d1 d2 w1 h1 h2 => Lib.hid (same_c B1 B2 l l d1 d2 w1 hlen h1 h2)
    rw [show sameL l l = true by simp [sameL]] at HS2
    go_enter Try.func13, Try.ntmps13
    go_wp2_with (fail)
    refine (HL _).out.mono ?_
    rintro e w1 ⟨rfl, rfl⟩
    go_wp2_with (fail)
    refine H1.out.mono ?_
    rintro e w1 ⟨A1, c1, rfl, ho1, hb1⟩
    go_wp2_with (fail)
    refine (H2 _ (hr.later hb1)).out.mono ?_
    rintro e w2 ⟨A2, c2, rfl, ho2, hb2⟩
    have hb12 := bl_call hb1 hb2
    have hr1 := (own_rd ho1).1.later hb2
    have HS1 := HS A1 A2 c1 c2 w2 hr1 (own_rd ho2).1
    clear HS H1 H2
    go_wp2_with (fail)
    refine HS1.out.mono ?_
    rintro e w3 ⟨rfl, hb3⟩
    have hb13 := bl_call hb12 hb3
    have hr3 := hr1.later hb3
    clear HS1
    by_cases hv : ev = 0
    · obtain ⟨rfl, rfl, hej, hJ⟩ := HV.out hv
      subst hv
      have H3' := H3 A1 c1 w3 hr3
      clear HV H3
      go_wp2_with (fail)
      refine H3'.out.mono ?_
      rintro e w4 ⟨A4, c4, rfl, ho4, hb4⟩
      have hb14 := bl_call hb13 hb4
      have hr4 := hr3.later hb4
      have HS3 := HS2 A4 A c4 c w4 (own_rd ho4).1 (hr.later hb14)
      clear H3' HS2
      go_wp2_with (fail)
      refine HS3.out.mono ?_
      rintro e w5 ⟨rfl, hb5⟩
      have hb15 := bl_call hb14 hb5
      have H4' := H4 A1 c1 w5 (hr.later hb15) (hr4.later hb5)
      clear H4 HS3
      by_cases h10 : 10 < II.length + II.length
      · rw [if_pos h10] at hej
        subst hej
        have h10' : (10 : Int) < 2 * (II.length : Int) := by omega
        clear hJ
        go_wp2_with (fail)
        refine H4'.out.mono ?_
        rintro e w6 ⟨A6, c6, rfl, ho6, hb6⟩
        have hb16 := bl_call hb15 hb6
        go_wp2_with (fail)
        refine (HK _).out.mono ?_
        rintro e w7 ⟨rfl, hb7⟩
        go_wp2_with (fail)
        go_ret
        exact ⟨rfl, bl_call hb16 hb7⟩
      · rw [if_neg h10] at hej
        subst hej
        obtain ⟨rfl, rfl⟩ := hJ rfl
        go_wp2_with (fail)
        refine H4'.out.mono ?_
        rintro e w6 ⟨A6, c6, rfl, ho6, hb6⟩
        have hb16 := bl_call hb15 hb6
        have H5' := H5 A6 c6 w6 (own_rd ho6).1
        clear H5 H4'
        go_wp2_with (fail)
        refine H5'.out.mono ?_
        rintro e w7 ⟨A7, c7, rfl, ho7, hb7⟩
        have hb17 := bl_call hb16 hb7
        go_wp2_with (fail)
        refine (HK _).out.mono ?_
        rintro e w8 ⟨rfl, hb8⟩
        go_wp2_with (fail)
        go_ret
        exact ⟨rfl, bl_call hb17 hb8⟩
    · clear HV
      go_wp2_with (fail)
      refine (HK _).out.mono ?_
      rintro e w8 ⟨rfl, hb8⟩
      go_wp2_with (fail)
      go_ret
      exact ⟨rfl, bl_call hb13 hb8⟩
end Go.Proofs.Yteoajadcdjaalaa
