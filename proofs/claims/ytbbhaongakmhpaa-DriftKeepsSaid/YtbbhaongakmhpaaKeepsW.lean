/- DriftKeeps, walked. -/
import Derived.Test.YtbbhaongakmhpaaKnownD
import Derived.Test.YtbbhaongakmhpaaRcht
namespace Go.Proofs.Ytbbhaongakmhpaa
open Go.RowKit

set_option maxRecDepth 100000 in
set_option maxHeartbeats 8000000 in
theorem driftKeeps_walk (A : Option Addr) (l : List T3) (c : Nat) (r : Int) (B : Option Addr) (tr : List Int) (d : Nat) (w : World) (_hcap : l.length ≤ c) (hr : Rd w A (cellsT l)) (_hr : (Lit.int .i64 r).wf = true) (hq : Rd w B (ints tr)) :
    Calls Try.prog 10 #[.slice A l.length c, .int .i64 r, .slice B tr.length d] w fun e w' => e = .returned (.bool true) ∧ Below w.heap.size w w' := by
  have HL := fun w => Lib.hid (long_c A l.length c w)
  have HK := fun w => Lib.hid (known_c w)
  by_cases hlong : 100 < l.length
  · rw [decide_eq_true hlong] at HL
    go_enter Try.func10, Try.ntmps10
    go_wp2_with (fail)
    refine (HL _).out.mono ?_
    rintro e w1 ⟨rfl, rfl⟩
    go_wp2_with (fail)
    refine (HK _).out.mono ?_
    rintro e w2 ⟨rfl, hb2⟩
    go_wp2_with (fail)
    go_ret
    exact ⟨rfl, hb2⟩
  · rw [decide_eq_false hlong] at HL
    have hlen : l.length ≤ 1000 := by omega
    clear hlong
    by_cases htl : 1100 < tr.length
    · have htl' : (1100 : Int) < (tr.length : Int) := by omega
      go_enter Try.func10, Try.ntmps10
      go_wp2_with (fail)
      refine (HL _).out.mono ?_
      rintro e w1 ⟨rfl, rfl⟩
      have hb0 := Below.refl w.heap.size w
      go_wp2_with (fail)
      refine (HK _).out.mono ?_
      rintro e wk ⟨rfl, hbk⟩
      go_wp2_with (fail)
      go_ret
      exact ⟨rfl, bl_call hb0 hbk⟩
    · have htl' : ¬ (1100 : Int) < (tr.length : Int) := by omega
      have H1 := fun w h h' => Lib.hid (CheckTrack_c A B l tr c d r w hlen (by omega) h h')
      have H2 := fun w h h' => Lib.hid (rCheckTrack_c A B l tr c d r w hlen (by omega) h h')
      by_cases hz : chtE l r tr = 0
      · have hE : ratE l r = 0 := by
          rcases Decidable.em (ratE l r = 0) with h | h
          · exact h
          · unfold chtE at hz; rw [if_neg h] at hz; exact absurd hz h
        obtain ⟨ho, h0, h9⟩ := ratE_ok.1 hE
        have hkp : Keeps l r tr := keepE_zero.1 (by unfold chtE at hz; rw [if_pos hE] at hz; exact hz)
        have ha := keeps_agree ho h0 hkp
        have hg : agrG l r = true := by rw [agrG_yes hE, ha]
        have H3 := fun w h => Lib.hid (Agree_c A l c r w hlen h)
        have H4 := Lib.hid (fun t w h => Bounds_c A l c r t w hlen h)
        have HB : Hid (∀ k : Nat, k < tr.length → bndT l r (tm l 0 + (k : Int)) = .tuple #[.int .i64 (lowB l r (tm l 0 + (k : Int))), .int .i64 (highB l r (tm l 0 + (k : Int))), .bool true, .int .i64 0] ∧ lowB l r (tm l 0 + (k : Int)) ≤ tr.getD k 0 ∧ tr.getD k 0 ≤ highB l r (tm l 0 + (k : Int)) ∧ 0 ≤ tm l 0 + (k : Int) ∧ tm l 0 + (k : Int) ≤ 2000) := fun k hk => by
          have a1 := ho.t0 0 ho.ne
          have a2 := ho.t1 (l.length - 1) (by have := ho.ne; omega)
          have a3 := hkp.len
          unfold timesI at a3
          obtain ⟨b1, b2⟩ := keeps_bounds ho h0 hkp hk
          exact ⟨if_pos ⟨timE_ok.2 ⟨⟨ho, h0, h9⟩, by omega, by omega⟩, ha⟩, b1, b2, by omega, by omega⟩
        have HNE := Lib.hid ho.ne
        rw [hz] at H1 H2
        rw [hg, hE] at H3
        clear hz ho h0 h9 hkp ha hg hE
        go_enter Try.func10, Try.ntmps10
        go_wp2_with (fail)
        refine (HL _).out.mono ?_
        rintro e w1 ⟨rfl, rfl⟩
        have hb0 := Below.refl w.heap.size w
        go_wp2_with (fail)
        refine (H1 _ (hr.later hb0) (hq.later hb0)).out.mono ?_
        rintro e w1_ ⟨rfl, hbx1⟩
        have hb01 := bl_call hb0 hbx1
        go_wp2_with (fail)
        refine (H2 _ (hr.later hb01) (hq.later hb01)).out.mono ?_
        rintro e w2_ ⟨rfl, hbx2⟩
        have hb02 := bl_call hb01 hbx2
        go_wp2_with (fail)
        clear H1 H2
        go_loopg [8] (min tr.length 30) (fun gk iv wr => ∃ k : Nat, Hid (k + gk = min tr.length 30) ∧ iv = .int .i64 (k : Int) ∧ Below w.heap.size w wr)
        case atStart => exact ⟨0, by simp [Hid], rfl, hb02⟩
        case round =>
          obtain ⟨k, HK5, rfl, hb⟩ := hrel
          clear hb02
          have hne := HNE.out
          have h0' : (0 : Int) < (l.length : Int) := by omega
          rcases gk with _ | gi
          · have hk : k = min tr.length 30 := HK5.out
            by_cases hkn : k < tr.length
            · have e1 : (k : Int) < (tr.length : Int) := by omega
              have e2 : ¬ (k : Int) < 30 := by omega
              have e3 : ¬ k < 30 := by omega
              clear hk
              go_wp2_with (fail)
              refine (H3 _ (hr.later hb)).out.mono ?_
              rintro e w5 ⟨rfl, hb5⟩
              have hb05 := bl_call hb hb5
              go_wp2_with (fail)
              refine (HK _).out.mono ?_
              rintro e wk ⟨rfl, hbk⟩
              go_wp2_with (fail)
              go_ret
              exact ⟨rfl, bl_call hb05 hbk⟩
            · have e1 : ¬ (k : Int) < (tr.length : Int) := by omega
              clear hk
              go_wp2_with (fail)
              refine (H3 _ (hr.later hb)).out.mono ?_
              rintro e w5 ⟨rfl, hb5⟩
              have hb05 := bl_call hb hb5
              go_wp2_with (fail)
              refine (HK _).out.mono ?_
              rintro e wk ⟨rfl, hbk⟩
              go_wp2_with (fail)
              go_ret
              exact ⟨rfl, bl_call hb05 hbk⟩
          · have hkn : k < tr.length := by have := HK5.out; omega
            have hk30 : k < 30 := by have := HK5.out; omega
            have e1 : (k : Int) < (tr.length : Int) := by omega
            have e2 : (k : Int) < 30 := by omega
            obtain ⟨q1, q2, q3, q4, q5⟩ := HB.out k hkn
            have HC := Lib.hid (fun w h => H4.out (tm l 0 + (k : Int)) w h)
            rw [q1] at HC
            obtain ⟨b', o, rfl, hbl, c0_, -, -⟩ := (hr.later hb).tri hne
            have c0 : wr.cell? ⟨b', o, none⟩ = some (.int .i64 (tm l 0)) := by rw [Nat.zero_mul, Nat.add_zero] at c0_; exact c0_
            have e5 : wrap64 (tm l 0 + (k : Int)) = tm l 0 + (k : Int) := IntWalk.wrap64_in _ ⟨by omega, by omega⟩
            have e6 : IntKind.i64.wrap (tm l 0 + (k : Int)) = tm l 0 + (k : Int) := by rw [IntWalk.i64_left]; exact e5
            have hnn : ¬ l = [] := by rintro rfl; simp at hne
            clear q1 c0_
            generalize lowB l r (tm l 0 + (k : Int)) = L at *
            generalize highB l r (tm l 0 + (k : Int)) = H at *
            generalize tm l 0 = T0 at *
            have HQ2 := Lib.hid q2
            have HQ3 := Lib.hid q3
            clear q2 q3 q4 q5
            go_wp2_with (fail)
            refine (HC.out wr (hr.later hb)).mono ?_
            rintro e w5 ⟨rfl, hb5⟩
            have hb05 := bl_call hb hb5
            obtain ⟨b2, o2, rfl, _, hc⟩ := (hq.later hb05).at_ (k := k) (by simpa using hkn)
            have hck := hc k _ (ints_get hkn)
            have q2 := HQ2.out
            have q3 := HQ3.out
            clear hc HQ2 HQ3 HB
            generalize tr.getD k 0 = x at *
            go_wp2_with (fail)
            go_roundg gi
            case rel => exact ⟨k + 1, by have := HK5.out; show _ = _; omega, by go_num, hb05⟩
            case measure => omega
      · have hz' : (chtE l r tr != 0) = true := by simpa using hz
        generalize chtE l r tr = E at *
        go_enter Try.func10, Try.ntmps10
        go_wp2_with (fail)
        refine (HL _).out.mono ?_
        rintro e w1 ⟨rfl, rfl⟩
        have hb0 := Below.refl w.heap.size w
        go_wp2_with (fail)
        refine (H1 _ (hr.later hb0) (hq.later hb0)).out.mono ?_
        rintro e w1_ ⟨rfl, hbx1⟩
        have hb01 := bl_call hb0 hbx1
        go_wp2_with (fail)
        refine (H2 _ (hr.later hb01) (hq.later hb01)).out.mono ?_
        rintro e w2_ ⟨rfl, hbx2⟩
        have hb02 := bl_call hb01 hbx2
        go_wp2_with (fail)
        refine (HK _).out.mono ?_
        rintro e wk ⟨rfl, hbk⟩
        go_wp2_with (fail)
        go_ret
        exact ⟨rfl, bl_call hb02 hbk⟩
end Go.Proofs.Ytbbhaongakmhpaa
