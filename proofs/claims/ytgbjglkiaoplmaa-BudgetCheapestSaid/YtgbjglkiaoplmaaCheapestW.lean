/- The walk of 'BudgetCheapest'. -/
import Derived.Test.YtgbjglkiaoplmaaKno
import Derived.Test.YtgbjglkiaoplmaaRcp
import Derived.Test.YtgbjglkiaoplmaaRos
namespace Go.Proofs.Ytgbjglkiaoplmaa
open Go.RowKit

theorem cheap_facts {l : List It} {fs : List Fx} {m e : Int} (h : chB l fs m e = true) : byE l fs m e = 0 ∧ ckE l fs m e (chC l fs m e) = 0 ∧ ckK l fs m e (chC l fs m e) = chK l fs m e := by
  unfold chB at h
  split at h
  · rename_i hby
    obtain ⟨h1, h2⟩ := byE_ok hby
    have hn8 := (vfE_ok h1).2.1
    rcases hco : cheapO l fs m e with _ | o
    · rw [(chp_none hco).2.2] at h; cases h
    · obtain ⟨g1, g2, g3⟩ := chp_some hco
      have hC := cheap_o hn8 hco
      have e1 : chC l fs m e = o.c := by unfold chC; rw [if_pos hby, g1]
      have e2 : chK l fs m e = o.k := by unfold chK; rw [if_pos hby, g2]
      have e3 : ckE l fs m e o.c = 0 := by unfold ckE; rw [if_pos hby, if_pos (cho_iff.2 hC.cho), if_pos hC.close]
      rw [e1, e2]
      refine ⟨hby, e3, ?_⟩
      unfold ckK; rw [if_pos e3]; exact hC.cost.symm
  · cases h
theorem cheap_no {l : List It} {fs : List Fx} {m e : Int} (h : chB l fs m e = false) : chC l fs m e = [] := by
  unfold chB at h
  split at h
  · rename_i hby
    rcases hco : cheapO l fs m e with _ | o
    · unfold chC; rw [if_pos hby, (chp_none hco).1]
    · rw [(chp_some hco).2.2] at h; cases h
  · rename_i hby; unfold chC; rw [if_neg hby]
theorem chC_len (l : List It) (fs : List Fx) (m e : Int) : (chC l fs m e).length ≤ 8 := by
  unfold chC
  split
  · rename_i hby
    have hn8 := (vfE_ok (byE_ok hby).1).2.1
    rcases hco : cheapO l fs m e with _ | o
    · rw [(chp_none hco).1]; simp
    · rw [(chp_some hco).1]; exact Nat.le_trans (cho_len (cheap_o hn8 hco).cho hn8) (by omega)
  · simp
set_option maxRecDepth 100000 in
set_option maxHeartbeats 4000000 in
theorem budgetCheapest_walk (A : Option Addr) (l : List It) (cap : Nat) (B : Option Addr) (fs : List Fx) (cap2 : Nat) (m e : Int) (w : World) (_hcap : l.length ≤ cap) (_hcap2 : fs.length ≤ cap2) (hr : Rd w A (cellsI l)) (hs : Rd w B (cellsF fs)) (_hm : (Lit.int .i64 m).wf = true) (_he : (Lit.int .i64 e).wf = true) :
    Calls Try.prog 8 #[.slice A l.length cap, .slice B fs.length cap2, .agg #[.int .i64 m, .int .i64 e]] w fun f w' => f = .returned (.bool true) ∧ Below w.heap.size w w' := by
  have hk0 := bl_alloc (Below.refl w.heap.size w) (.cells #[.int .i64 m, .int .i64 e] 30)
  have xm0 : Bx (w.alloc (.cells #[.int .i64 m, .int .i64 e] 30)) w.heap.size 30 #[.int .i64 m, .int .i64 e] := Bx.new w _ _
  obtain ⟨fm0, fm1, _, _⟩ := xm0.two
  by_cases hL : 50 < l.length
  · have hd : decide (50 < l.length) = true := decide_eq_true hL
    go_enter Try.func8, Try.ntmps8
    go_wp2_with (fail)
    refine (Long_c _ _ _ _).mono ?_
    rintro e q1 ⟨rfl, rfl⟩
    rw [hd]
    go_wp2_with (fail)
    refine (known_c _).mono ?_
    rintro e w2 ⟨rfl, hb2⟩
    have hk2 := bl_call hk0 hb2
    have xm2 := xm0.call hb2
    clear fm0 fm1 hk0 xm0
    obtain ⟨fm0, fm1, _, _⟩ := xm2.two
    go_wp2_with (fail)
    go_ret
    exact ⟨rfl, hk2⟩
  · have hd : decide (50 < l.length) = false := decide_eq_false hL
    by_cases hL2 : 50 < fs.length
    · have hL3 : (50 : Int) < (fs.length : Int) := by omega
      go_enter Try.func8, Try.ntmps8
      go_wp2_with (fail)
      refine (Long_c _ _ _ _).mono ?_
      rintro e q1 ⟨rfl, rfl⟩
      rw [hd]
      go_wp2_with (fail)
      refine (known_c _).mono ?_
      rintro e w2 ⟨rfl, hb2⟩
      have hk2 := bl_call hk0 hb2
      have xm2 := xm0.call hb2
      clear fm0 fm1 hk0 xm0
      obtain ⟨fm0, fm1, _, _⟩ := xm2.two
      go_wp2_with (fail)
      go_ret
      exact ⟨rfl, hk2⟩
    · have hL3 : ¬ (50 : Int) < (fs.length : Int) := by omega
      have HA := fun w hr hs => Lib.hid (Cheapest_c A l cap B fs cap2 m e w (by omega) (by omega) hr hs)
      have HR := fun w hr hs => Lib.hid (rCheapest_c A l cap B fs cap2 m e w (by omega) (by omega) hr hs)
      have HC := fun w hr hs => Lib.hid (Choice_c A l cap B fs cap2 m e w (by omega) (by omega) hr hs)
      have HD := fun w hr hs => Lib.hid (rChoice_c A l cap B fs cap2 m e w (by omega) (by omega) hr hs)
      have HLn := Lib.hid (chC_len l fs m e)
      have HCk := fun C cap3 w hr hs hc => Lib.hid (CheckChoice_c A l cap B fs cap2 m e C (chC l fs m e) cap3 w (by omega) (by omega) (by have := HLn.out; omega) hr hs hc)
      have HY := Lib.hid (@cheap_facts l fs m e)
      have HNo := Lib.hid (@cheap_no l fs m e)
      generalize chC l fs m e = ch at *
      generalize chK l fs m e = k at *
      generalize byE l fs m e = y at *
      generalize chB l fs m e = z at *
      generalize ckE l fs m e ch = ce at *
      generalize ckK l fs m e ch = ck at *
      cases z with
      | true =>
        obtain ⟨rfl, rfl, rfl⟩ := HY.out rfl
        go_enter Try.func8, Try.ntmps8
        go_wp2_with (fail)
        refine (Long_c _ _ _ _).mono ?_
        rintro e q1 ⟨rfl, rfl⟩
        rw [hd]
        go_wp2_with (fail)
        refine ((HA _ (hr.later hk0) (hs.later hk0)).out).mono ?_
        rintro e w2 ⟨rfl, hb2⟩
        have hk2 := bl_call hk0 hb2
        have xm2 := xm0.call hb2
        clear fm0 fm1 hk0 xm0
        obtain ⟨fm0, fm1, _, _⟩ := xm2.two
        go_wp2_with (fail)
        refine ((HR _ (hr.later hk2) (hs.later hk2)).out).mono ?_
        rintro e w3 ⟨rfl, hb3⟩
        have hk3 := bl_call hk2 hb3
        have xm3 := xm2.call hb3
        clear fm0 fm1 hk2 xm2
        obtain ⟨fm0, fm1, _, _⟩ := xm3.two
        go_wp2_with (fail)
        refine (HC _ (hr.later hk3) (hs.later hk3)).out.mono ?_
        rintro f w4 ⟨A1, c1, rfl, ra0, hb4⟩
        have hk4 := bl_call hk3 hb4
        have xm4 := xm3.call hb4
        clear fm0 fm1 hk3 xm3
        obtain ⟨fm0, fm1, _, _⟩ := xm4.two
        go_wp2_with (fail)
        refine (HD _ (hr.later hk4) (hs.later hk4)).out.mono ?_
        rintro f w5 ⟨A2, c2, rfl, rb0, hb5⟩
        have hk5 := bl_call hk4 hb5
        have xm5 := xm4.call hb5
        have ra5 := ra0.later hb5
        clear fm0 fm1 hk4 xm4 ra0
        obtain ⟨fm0, fm1, _, _⟩ := xm5.two
        go_wp2_with (fail)
        refine (sameInts_c _ _ _ _ _ _ (by have := HLn.out; omega) ra5 rb0).mono ?_
        rintro e w6 ⟨rfl, hb6⟩
        have hk6 := bl_call hk5 hb6
        have xm6 := xm5.call hb6
        have ra6 := ra5.later hb6
        have rb6 := rb0.later hb6
        clear fm0 fm1 hk5 xm5 ra5 rb0
        obtain ⟨fm0, fm1, _, _⟩ := xm6.two
        go_wp2_with (fail)
        refine ((HCk _ _ _ (hr.later hk6) (hs.later hk6) ra6).out).mono ?_
        rintro e w7 ⟨rfl, hb7⟩
        have hk7 := bl_call hk6 hb7
        have xm7 := xm6.call hb7
        have ra7 := ra6.later hb7
        have rb7 := rb6.later hb7
        clear fm0 fm1 hk6 xm6 ra6 rb6
        obtain ⟨fm0, fm1, _, _⟩ := xm7.two
        go_wp2_with (fail)
        refine (known_c _).mono ?_
        rintro e w8 ⟨rfl, hb8⟩
        have hk8 := bl_call hk7 hb8
        have xm8 := xm7.call hb8
        have ra8 := ra7.later hb8
        have rb8 := rb7.later hb8
        clear fm0 fm1 hk7 xm7 ra7 rb7
        obtain ⟨fm0, fm1, _, _⟩ := xm8.two
        go_wp2_with (fail)
        go_ret
        exact ⟨rfl, hk8⟩
      | false =>
        have hnil := HNo.out rfl
        have hlz : ch.length = 0 := by rw [hnil]; rfl
        have hlz2 : (ch.length : Int) = 0 := by omega
        clear hnil
        have HZ := Lib.hid hlz
        have HZ2 := Lib.hid hlz2
        clear hlz
        go_enter Try.func8, Try.ntmps8
        go_wp2_with (fail)
        refine (Long_c _ _ _ _).mono ?_
        rintro e q1 ⟨rfl, rfl⟩
        rw [hd]
        go_wp2_with (fail)
        refine ((HA _ (hr.later hk0) (hs.later hk0)).out).mono ?_
        rintro e w2 ⟨rfl, hb2⟩
        have hk2 := bl_call hk0 hb2
        have xm2 := xm0.call hb2
        clear fm0 fm1 hk0 xm0
        obtain ⟨fm0, fm1, _, _⟩ := xm2.two
        go_wp2_with (fail)
        refine ((HR _ (hr.later hk2) (hs.later hk2)).out).mono ?_
        rintro e w3 ⟨rfl, hb3⟩
        have hk3 := bl_call hk2 hb3
        have xm3 := xm2.call hb3
        clear fm0 fm1 hk2 xm2
        obtain ⟨fm0, fm1, _, _⟩ := xm3.two
        go_wp2_with (fail)
        refine (HC _ (hr.later hk3) (hs.later hk3)).out.mono ?_
        rintro f w4 ⟨A1, c1, rfl, ra0, hb4⟩
        have hk4 := bl_call hk3 hb4
        have xm4 := xm3.call hb4
        clear fm0 fm1 hk3 xm3
        obtain ⟨fm0, fm1, _, _⟩ := xm4.two
        go_wp2_with (fail)
        refine (HD _ (hr.later hk4) (hs.later hk4)).out.mono ?_
        rintro f w5 ⟨A2, c2, rfl, rb0, hb5⟩
        have hk5 := bl_call hk4 hb5
        have xm5 := xm4.call hb5
        have ra5 := ra0.later hb5
        clear fm0 fm1 hk4 xm4 ra0
        obtain ⟨fm0, fm1, _, _⟩ := xm5.two
        go_wp2_with (fail)
        refine (sameInts_c _ _ _ _ _ _ (by have := HLn.out; omega) ra5 rb0).mono ?_
        rintro e w6 ⟨rfl, hb6⟩
        have hk6 := bl_call hk5 hb6
        have xm6 := xm5.call hb6
        have ra6 := ra5.later hb6
        have rb6 := rb0.later hb6
        clear fm0 fm1 hk5 xm5 ra5 rb0
        obtain ⟨fm0, fm1, _, _⟩ := xm6.two
        go_wp2_with (fail)
        refine (known_c _).mono ?_
        rintro e w7 ⟨rfl, hb7⟩
        have hk7 := bl_call hk6 hb7
        have xm7 := xm6.call hb7
        have ra7 := ra6.later hb7
        have rb7 := rb6.later hb7
        clear fm0 fm1 hk6 xm6 ra6 rb6
        obtain ⟨fm0, fm1, _, _⟩ := xm7.two
        go_wp2_with (fail)
        go_ret
        exact ⟨rfl, hk7⟩
end Go.Proofs.Ytgbjglkiaoplmaa
