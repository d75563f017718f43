/- The walk of 'BudgetChecks'. -/
import Derived.Test.YtgbjglkiaoplmaaKno
import Derived.Test.YtgbjglkiaoplmaaWtc
namespace Go.Proofs.Ytgbjglkiaoplmaa
open Go.RowKit

theorem ck_facts {l : List It} {fs : List Fx} {m e : Int} {c : List Int} (h : ckE l fs m e c = 0) : byE l fs m e = 0 ∧ chB l fs m e = true ∧ chK l fs m e ≤ ckK l fs m e c := by
  have hk : ckK l fs m e c = (withL l fs c).2 := by unfold ckK; rw [if_pos h]
  unfold ckE at h
  split at h
  · rename_i hby
    obtain ⟨h1, h2⟩ := byE_ok2 hby
    have hn8 := (vfE_ok h1).2.1
    split at h
    · rename_i hc
      have hcho := cho_iff.1 hc
      split at h
      · rename_i hcl
        rcases hco : cheapO l fs m e with _ | o
        · have := cheap_o_none hn8 hco hcho
          rw [hcl] at this; cases this
        · obtain ⟨g1, g2, g3⟩ := chp_some hco
          have hC := cheap_o hn8 hco
          refine ⟨hby, by unfold chB; rw [if_pos hby, g3], ?_⟩
          unfold chK; rw [if_pos hby, g2, hk]
          exact hC.le hcho hcl
      · cases h
    · rename_i hc; exact absurd h hc
  · rename_i hby; exact absurd h hby
set_option maxRecDepth 100000 in
set_option maxHeartbeats 4000000 in
theorem budgetChecks_walk (A : Option Addr) (l : List It) (cap : Nat) (B : Option Addr) (fs : List Fx) (cap2 : Nat) (m e : Int) (C : Option Addr) (c : List Int) (cap3 : Nat) (w : World) (_hcap : l.length ≤ cap) (_hcap2 : fs.length ≤ cap2) (hr : Rd w A (cellsI l)) (hs : Rd w B (cellsF fs)) (hc : Rd w C (ints c)) :
    Calls Try.prog 9 #[.slice A l.length cap, .slice B fs.length cap2, .agg #[.int .i64 m, .int .i64 e, .slice C c.length cap3]] w fun f w' => f = .returned (.bool true) ∧ Below w.heap.size w w' := by
  have hk0 := bl_alloc (Below.refl w.heap.size w) (.cells #[.int .i64 m, .int .i64 e, .slice C c.length cap3] 60)
  have xp0 : Bx (w.alloc (.cells #[.int .i64 m, .int .i64 e, .slice C c.length cap3] 60)) w.heap.size 60 #[.int .i64 m, .int .i64 e, .slice C c.length cap3] := Bx.new w _ _
  obtain ⟨fp0, fp1, fp2, _, _, _⟩ := xp0.three
  by_cases hL : 50 < l.length
  · have hd : decide (50 < l.length) = true := decide_eq_true hL
    go_enter Try.func9, Try.ntmps9
    go_wp2_with (fail)
    refine (Long_c _ _ _ _).mono ?_
    rintro e q1 ⟨rfl, rfl⟩
    rw [hd]
    go_wp2_with (fail)
    refine (known_c _).mono ?_
    rintro e w2 ⟨rfl, hb2⟩
    have hk2 := bl_call hk0 hb2
    have xp2 := xp0.call hb2
    clear fp0 fp1 fp2 hk0 xp0
    obtain ⟨fp0, fp1, fp2, _, _, _⟩ := xp2.three
    go_wp2_with (fail)
    go_ret
    exact ⟨rfl, hk2⟩
  · have hd : decide (50 < l.length) = false := decide_eq_false hL
    by_cases hL2 : 50 < fs.length
    · have hL3 : (50 : Int) < (fs.length : Int) := by omega
      go_enter Try.func9, Try.ntmps9
      go_wp2_with (fail)
      refine (Long_c _ _ _ _).mono ?_
      rintro e q1 ⟨rfl, rfl⟩
      rw [hd]
      go_wp2_with (fail)
      refine (known_c _).mono ?_
      rintro e w2 ⟨rfl, hb2⟩
      have hk2 := bl_call hk0 hb2
      have xp2 := xp0.call hb2
      clear fp0 fp1 fp2 hk0 xp0
      obtain ⟨fp0, fp1, fp2, _, _, _⟩ := xp2.three
      go_wp2_with (fail)
      go_ret
      exact ⟨rfl, hk2⟩
    · have hL3 : ¬ (50 : Int) < (fs.length : Int) := by omega
      by_cases hL4 : 50 < c.length
      · have hL5 : (50 : Int) < (c.length : Int) := by omega
        go_enter Try.func9, Try.ntmps9
        go_wp2_with (fail)
        refine (Long_c _ _ _ _).mono ?_
        rintro e q1 ⟨rfl, rfl⟩
        rw [hd]
        go_wp2_with (fail)
        refine (known_c _).mono ?_
        rintro e w2 ⟨rfl, hb2⟩
        have hk2 := bl_call hk0 hb2
        have xp2 := xp0.call hb2
        clear fp0 fp1 fp2 hk0 xp0
        obtain ⟨fp0, fp1, fp2, _, _, _⟩ := xp2.three
        go_wp2_with (fail)
        go_ret
        exact ⟨rfl, hk2⟩
      · have hL5 : ¬ (50 : Int) < (c.length : Int) := by omega
        have HA := fun w hr hs hc => Lib.hid (CheckChoice_c A l cap B fs cap2 m e C c cap3 w (by omega) (by omega) (by omega) hr hs hc)
        have HR := fun w hr hs hc => Lib.hid (rCheckChoice_c A l cap B fs cap2 m e C c cap3 w (by omega) (by omega) (by omega) hr hs hc)
        have HP := fun w hr hs => Lib.hid (Cheapest_c A l cap B fs cap2 m e w (by omega) (by omega) hr hs)
        by_cases hE : ckE l fs m e c = 0
        · obtain ⟨h1, h2, h3⟩ := ck_facts hE
          rw [hE] at HA HR
          rw [h1, h2] at HP
          clear hE h1 h2
          generalize ckK l fs m e c = a at *
          generalize chK l fs m e = b at *
          go_enter Try.func9, Try.ntmps9
          go_wp2_with (fail)
          refine (Long_c _ _ _ _).mono ?_
          rintro e q1 ⟨rfl, rfl⟩
          rw [hd]
          go_wp2_with (fail)
          refine ((HA _ (hr.later hk0) (hs.later hk0) (hc.later hk0)).out).mono ?_
          rintro e w2 ⟨rfl, hb2⟩
          have hk2 := bl_call hk0 hb2
          have xp2 := xp0.call hb2
          clear fp0 fp1 fp2 hk0 xp0
          obtain ⟨fp0, fp1, fp2, _, _, _⟩ := xp2.three
          go_wp2_with (fail)
          refine ((HR _ (hr.later hk2) (hs.later hk2) (hc.later hk2)).out).mono ?_
          rintro e w3 ⟨rfl, hb3⟩
          have hk3 := bl_call hk2 hb3
          have xp3 := xp2.call hb3
          clear fp0 fp1 fp2 hk2 xp2
          obtain ⟨fp0, fp1, fp2, _, _, _⟩ := xp3.three
          go_wp2_with (fail)
          refine ((HP _ (hr.later hk3) (hs.later hk3)).out).mono ?_
          rintro e w4 ⟨rfl, hb4⟩
          have hk4 := bl_call hk3 hb4
          have xp4 := xp3.call hb4
          clear fp0 fp1 fp2 hk3 xp3
          obtain ⟨fp0, fp1, fp2, _, _, _⟩ := xp4.three
          go_wp2_with (fail)
          refine (known_c _).mono ?_
          rintro e w5 ⟨rfl, hb5⟩
          have hk5 := bl_call hk4 hb5
          have xp5 := xp4.call hb5
          clear fp0 fp1 fp2 hk4 xp4
          obtain ⟨fp0, fp1, fp2, _, _, _⟩ := xp5.three
          go_wp2_with (fail)
          go_ret
          exact ⟨rfl, hk5⟩
        · have hE' : (ckE l fs m e c == 0) = false := by rw [beq_eq_false_iff_ne]; exact hE
          generalize ckE l fs m e c = E at *
          generalize ckK l fs m e c = a at *
          generalize chK l fs m e = b at *
          generalize chB l fs m e = z at *
          generalize byE l fs m e = y at *
          go_enter Try.func9, Try.ntmps9
          go_wp2_with (fail)
          refine (Long_c _ _ _ _).mono ?_
          rintro e q1 ⟨rfl, rfl⟩
          rw [hd]
          go_wp2_with (fail)
          refine ((HA _ (hr.later hk0) (hs.later hk0) (hc.later hk0)).out).mono ?_
          rintro e w2 ⟨rfl, hb2⟩
          have hk2 := bl_call hk0 hb2
          have xp2 := xp0.call hb2
          clear fp0 fp1 fp2 hk0 xp0
          obtain ⟨fp0, fp1, fp2, _, _, _⟩ := xp2.three
          go_wp2_with (fail)
          refine ((HR _ (hr.later hk2) (hs.later hk2) (hc.later hk2)).out).mono ?_
          rintro e w3 ⟨rfl, hb3⟩
          have hk3 := bl_call hk2 hb3
          have xp3 := xp2.call hb3
          clear fp0 fp1 fp2 hk2 xp2
          obtain ⟨fp0, fp1, fp2, _, _, _⟩ := xp3.three
          go_wp2_with (fail)
          refine ((HP _ (hr.later hk3) (hs.later hk3)).out).mono ?_
          rintro e w4 ⟨rfl, hb4⟩
          have hk4 := bl_call hk3 hb4
          have xp4 := xp3.call hb4
          clear fp0 fp1 fp2 hk3 xp3
          obtain ⟨fp0, fp1, fp2, _, _, _⟩ := xp4.three
          go_wp2_with (fail)
          refine (known_c _).mono ?_
          rintro e w5 ⟨rfl, hb5⟩
          have hk5 := bl_call hk4 hb5
          have xp5 := xp4.call hb5
          clear fp0 fp1 fp2 hk4 xp4
          obtain ⟨fp0, fp1, fp2, _, _, _⟩ := xp5.three
          go_wp2_with (fail)
          go_ret
          exact ⟨rfl, hk5⟩
end Go.Proofs.Ytgbjglkiaoplmaa
