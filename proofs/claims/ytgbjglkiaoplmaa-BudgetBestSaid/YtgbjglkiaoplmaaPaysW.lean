/- The walk of 'BudgetPays'. -/
import Derived.Test.YtgbjglkiaoplmaaSharesW
import Derived.Test.YtgbjglkiaoplmaaBst
namespace Go.Proofs.Ytgbjglkiaoplmaa
open Go.RowKit

theorem lless3_c {p q : Int × Int} (hp : FairP p) (hq : FairP q) (h : p.1 * q.2 < q.1 * p.2) (w : World) : Calls Try.prog 28 #[.agg #[.int .i64 p.1, .int .i64 p.2], .agg #[.int .i64 q.1, .int .i64 q.2]] w fun e w' => e = .returned (.bool true) ∧ Below w.heap.size w w' := by
  have p1 := mul_in (a := p.1) (b := q.2) (A := 120960) (B := 2520) ⟨hp.n0, hp.n1⟩ ⟨by have := hq.d0; omega, hq.d1⟩
  have p2 := mul_in (a := q.1) (b := p.2) (A := 120960) (B := 2520) ⟨hq.n0, hq.n1⟩ ⟨by have := hp.d0; omega, hp.d1⟩
  have := lless_c p.1 p.2 q.1 q.2 w (by omega) (by omega)
  rw [decide_eq_true h] at this
  exact this
theorem bstE_ok {l : List It} {fs : List Fx} {k : Int} (h : bstE l fs k = 0) : vfE l fs = 0 ∧ 0 ≤ k ∧ k ≤ 792 := by
  unfold bstE at h
  split at h
  · rename_i h0
    split at h
    · rename_i h1; exact ⟨h0, h1.1, h1.2⟩
    · cases h
  · rename_i h0; exact absurd h h0
theorem best_bound {l : List It} {fs : List Fx} {k : Int} (h : vfE l fs = 0) (hk : 0 ≤ k) : 0 ≤ bestL l fs k ∧ bestL l fs k ≤ 120960 := by
  have h1 := best_in h hk
  have h2 := parts_bound (vfE_ok h).1
  omega
theorem fair_lim {p : Int × Int} (h : FairP p) : limB p.1 p.2 = true := by
  have := h.d0; have := h.d1; have := h.n0; have := h.n1
  exact limB_iff.2 ⟨by omega, by omega, by omega, by omega⟩
theorem best_fair {l : List It} {fs : List Fx} {k : Int} (h : bstE l fs k = 0) : FairP (bstG l fs k) := by
  obtain ⟨h1, h2, h3⟩ := bstE_ok h
  unfold bstG; rw [if_pos h]
  exact fair_rat (best_bound h1 h2)
/-- What the law says. -/
theorem pays_facts {l : List It} {fs : List Fx} {k : Int} (h : bstE l fs k = 0) : byE l fs (bstG l fs k).1 (bstG l fs k).2 = 0 ∧ chB l fs (bstG l fs k).1 (bstG l fs k).2 = true ∧ (0 ≤ chK l fs (bstG l fs k).1 (bstG l fs k).2 ∧ chK l fs (bstG l fs k).1 (bstG l fs k).2 ≤ k) ∧
    (chK l fs (bstG l fs k).1 (bstG l fs k).2 ≠ 0 → bstE l fs (chK l fs (bstG l fs k).1 (bstG l fs k).2 - 1) = 0 ∧ (bstG l fs k).1 * (bstG l fs (chK l fs (bstG l fs k).1 (bstG l fs k).2 - 1)).2 < (bstG l fs (chK l fs (bstG l fs k).1 (bstG l fs k).2 - 1)).1 * (bstG l fs k).2) := by
  obtain ⟨h1, h2, h3⟩ := bstE_ok h
  have hf := best_fair h
  have hl := fair_lim hf
  have hG : bstG l fs k = rat (bestL l fs k) := by unfold bstG; rw [if_pos h]
  obtain ⟨c, n, hc, hn, hj⟩ := pays (l := l) (fs := fs) h2
  rw [← hG] at hc
  have hby : byE l fs (bstG l fs k).1 (bstG l fs k).2 = 0 := by unfold byE; rw [if_pos h1, if_pos hl]
  have hn8 := (vfE_ok h1).2.1
  rcases hco : cheapO l fs (bstG l fs k).1 (bstG l fs k).2 with _ | o
  · have := cheap_o_none hn8 hco hc.cho
    rw [hc.close] at this; cases this
  · obtain ⟨e1, e2⟩ := (cheap_o hn8 hco).one hc
    obtain ⟨g1, g2, g3⟩ := chp_some hco
    have hK : chK l fs (bstG l fs k).1 (bstG l fs k).2 = n := by unfold chK; rw [if_pos hby, g2, e2]
    have hB : chB l fs (bstG l fs k).1 (bstG l fs k).2 = true := by unfold chB; rw [if_pos hby, g3]
    have hn0 : 0 ≤ n := by
      obtain ⟨x, hx, _⟩ := chos_all hn8 hc.cho
      have := (with_bet h1 (chos_asc_ok hx) (chosTo x 8).length (Nat.le_refl _)).2.1
      rw [hc.cost, ← ‹chosTo x 8 = c›]; exact this
    rw [hK]
    refine ⟨hby, hB, ⟨hn0, hn⟩, fun hne => ?_⟩
    have hE : bstE l fs (n - 1) = 0 := by unfold bstE; rw [if_pos h1, if_pos (by omega)]
    refine ⟨hE, ?_⟩
    have hG2 : bstG l fs (n - 1) = rat (bestL l fs (n - 1)) := by unfold bstG; rw [if_pos hE]
    rw [hG, hG2, rat_lt]
    exact hj (n - 1) (by omega) (by omega)
set_option maxRecDepth 100000 in
set_option maxHeartbeats 4000000 in
theorem budgetPays_walk (A : Option Addr) (l : List It) (cap : Nat) (B : Option Addr) (fs : List Fx) (cap2 : Nat) (k : Int) (w : World) (_hcap : l.length ≤ cap) (_hcap2 : fs.length ≤ cap2) (hr : Rd w A (cellsI l)) (hs : Rd w B (cellsF fs)) (_hk : (Lit.int .i64 k).wf = true) :
    Calls Try.prog 11 #[.slice A l.length cap, .slice B fs.length cap2, .int .i64 k] w fun e w' => e = .returned (.bool true) ∧ Below w.heap.size w w' := by
  by_cases hL : 50 < l.length
  · have hd : decide (50 < l.length) = true := decide_eq_true hL
    go_enter Try.func11, Try.ntmps11
    go_wp2_with (fail)
    refine (Long_c _ _ _ _).mono ?_
    rintro e q1 ⟨rfl, rfl⟩
    rw [hd]
    go_wp2_with (fail)
    refine (known_c _).mono ?_
    rintro e w2 ⟨rfl, hb2⟩
    have hk2 := hb2
    go_wp2_with (fail)
    go_ret
    exact ⟨rfl, hk2⟩
  · have hd : decide (50 < l.length) = false := decide_eq_false hL
    by_cases hL2 : 50 < fs.length
    · have hL3 : (50 : Int) < (fs.length : Int) := by omega
      go_enter Try.func11, Try.ntmps11
      go_wp2_with (fail)
      refine (Long_c _ _ _ _).mono ?_
      rintro e q1 ⟨rfl, rfl⟩
      rw [hd]
      go_wp2_with (fail)
      refine (known_c _).mono ?_
      rintro e w2 ⟨rfl, hb2⟩
      have hk2 := hb2
      go_wp2_with (fail)
      go_ret
      exact ⟨rfl, hk2⟩
    · have hL3 : ¬ (50 : Int) < (fs.length : Int) := by omega
      have HB := fun k w hr hs => Lib.hid (Best_c A l cap B fs cap2 k w (by omega) (by omega) hr hs)
      have HP := fun m e w hr hs => Lib.hid (Cheapest_c A l cap B fs cap2 m e w (by omega) (by omega) hr hs)
      have HF := Lib.hid (@best_fair l fs k)
      have HFF := Lib.hid (fun k => @best_fair l fs k)
      have HK := Lib.hid (@pays_facts l fs k)
      have HBk := HB k
      by_cases hE : bstE l fs k = 0
      · obtain ⟨g1, g2, g3, g4⟩ := HK.out hE
        have f1 := HF.out hE
        have HPk := HP (bstG l fs k).1 (bstG l fs k).2
        rw [g1, g2] at HPk
        rw [hE] at HBk
        have hnk : ¬ k < chK l fs (bstG l fs k).1 (bstG l fs k).2 := by omega
        have HFt := fun W => Lib.hid (fair2_c f1 W)
        by_cases hn : chK l fs (bstG l fs k).1 (bstG l fs k).2 = 0
        · rw [hn] at HPk hnk
          clear g4 g3 g2 g1 HK HF HFF HB HP hn hE f1
          generalize bstG l fs k = t at *
          go_enter Try.func11, Try.ntmps11
          go_wp2_with (fail)
          refine (Long_c _ _ _ _).mono ?_
          rintro e q1 ⟨rfl, rfl⟩
          rw [hd]
          go_wp2_with (fail)
          refine ((HBk _ hr hs).out).mono ?_
          rintro e w2 ⟨rfl, hb2⟩
          have hk2 := hb2
          have hn3 := bl_alloc (Below.refl w2.heap.size w2) (.cells #[.int .i64 t.1, .int .i64 t.2] 30)
          have y3 : Bx (w2.alloc (.cells #[.int .i64 t.1, .int .i64 t.2] 30)) w2.heap.size 30 #[.int .i64 t.1, .int .i64 t.2] := Bx.new w2 _ _
          have hk3 := bl_call hk2 hn3
          clear hk2
          clear hn3
          obtain ⟨ft0, ft1, _, _⟩ := y3.two
          go_wp2_with (fail)
          refine ((HPk _ (hr.later hk3) (hs.later hk3)).out).mono ?_
          rintro e w4 ⟨rfl, hb4⟩
          have hk4 := bl_call hk3 hb4
          have xt4 := y3.call hb4
          clear ft0 ft1 hk3 y3
          obtain ⟨ft0, ft1, _, _⟩ := xt4.two
          go_wp2_with (fail)
          refine (known_c _).mono ?_
          rintro e w5 ⟨rfl, hb5⟩
          have hk5 := bl_call hk4 hb5
          have xt5 := xt4.call hb5
          clear ft0 ft1 hk4 xt4
          obtain ⟨ft0, ft1, _, _⟩ := xt5.two
          go_wp2_with (fail)
          go_ret
          exact ⟨rfl, hk5⟩
        · obtain ⟨g5, g6⟩ := g4 hn
          have f2 := HFF.out _ g5
          have HFu := fun W => Lib.hid (fair2_c f2 W)
          have HLs := fun W => Lib.hid (lless3_c f1 f2 g6 W)
          have HBn := HB (chK l fs (bstG l fs k).1 (bstG l fs k).2 - 1)
          rw [g5] at HBn
          have hn' : (chK l fs (bstG l fs k).1 (bstG l fs k).2 == 0) = false := by rw [beq_eq_false_iff_ne]; exact hn
          have hk792 := (bstE_ok hE).2.2
          have hw : wrap64 (chK l fs (bstG l fs k).1 (bstG l fs k).2 - 1) = chK l fs (bstG l fs k).1 (bstG l fs k).2 - 1 := IntWalk.wrap64_in _ ⟨by omega, by omega⟩
          clear g1 g2 g3 g4 g5 g6 f1 f2 HK HF HFF HB HP hE hn hk792
          generalize bstG l fs (chK l fs (bstG l fs k).1 (bstG l fs k).2 - 1) = u at *
          generalize chK l fs (bstG l fs k).1 (bstG l fs k).2 = n at *
          generalize bstG l fs k = t at *
          go_enter Try.func11, Try.ntmps11
          go_wp2_with (fail)
          refine (Long_c _ _ _ _).mono ?_
          rintro e q1 ⟨rfl, rfl⟩
          rw [hd]
          go_wp2_with (fail)
          refine ((HBk _ hr hs).out).mono ?_
          rintro e w2 ⟨rfl, hb2⟩
          have hk2 := hb2
          have hn3 := bl_alloc (Below.refl w2.heap.size w2) (.cells #[.int .i64 t.1, .int .i64 t.2] 30)
          have y3 : Bx (w2.alloc (.cells #[.int .i64 t.1, .int .i64 t.2] 30)) w2.heap.size 30 #[.int .i64 t.1, .int .i64 t.2] := Bx.new w2 _ _
          have hk3 := bl_call hk2 hn3
          clear hk2
          clear hn3
          obtain ⟨ft0, ft1, _, _⟩ := y3.two
          go_wp2_with (fail)
          refine ((HPk _ (hr.later hk3) (hs.later hk3)).out).mono ?_
          rintro e w4 ⟨rfl, hb4⟩
          have hk4 := bl_call hk3 hb4
          have xt4 := y3.call hb4
          clear ft0 ft1 hk3 y3
          obtain ⟨ft0, ft1, _, _⟩ := xt4.two
          go_wp2_with (fail)
          refine ((HBn _ (hr.later hk4) (hs.later hk4)).out).mono ?_
          rintro e w5 ⟨rfl, hb5⟩
          have hk5 := bl_call hk4 hb5
          have xt5 := xt4.call hb5
          clear ft0 ft1 hk4 xt4
          obtain ⟨ft0, ft1, _, _⟩ := xt5.two
          have hn6 := bl_alloc (Below.refl w5.heap.size w5) (.cells #[.int .i64 u.1, .int .i64 u.2] 30)
          have y6 : Bx (w5.alloc (.cells #[.int .i64 u.1, .int .i64 u.2] 30)) w5.heap.size 30 #[.int .i64 u.1, .int .i64 u.2] := Bx.new w5 _ _
          have hk6 := bl_call hk5 hn6
          have xt6 := xt5.call hn6
          clear ft0 ft1 hk5 xt5
          clear hn6
          obtain ⟨ft0, ft1, _, _⟩ := xt6.two
          obtain ⟨fu0, fu1, _, _⟩ := y6.two
          go_wp2_with (fail)
          refine ((HFt _).out).mono ?_
          rintro e w7 ⟨rfl, hb7⟩
          have hk7 := bl_call hk6 hb7
          have xt7 := xt6.call hb7
          have xu7 := y6.call hb7
          clear ft0 ft1 fu0 fu1 hk6 xt6 y6
          obtain ⟨ft0, ft1, _, _⟩ := xt7.two
          obtain ⟨fu0, fu1, _, _⟩ := xu7.two
          go_wp2_with (fail)
          refine ((HFu _).out).mono ?_
          rintro e w8 ⟨rfl, hb8⟩
          have hk8 := bl_call hk7 hb8
          have xt8 := xt7.call hb8
          have xu8 := xu7.call hb8
          clear ft0 ft1 fu0 fu1 hk7 xt7 xu7
          obtain ⟨ft0, ft1, _, _⟩ := xt8.two
          obtain ⟨fu0, fu1, _, _⟩ := xu8.two
          go_wp2_with (fail)
          refine ((HLs _).out).mono ?_
          rintro e w9 ⟨rfl, hb9⟩
          have hk9 := bl_call hk8 hb9
          have xt9 := xt8.call hb9
          have xu9 := xu8.call hb9
          clear ft0 ft1 fu0 fu1 hk8 xt8 xu8
          obtain ⟨ft0, ft1, _, _⟩ := xt9.two
          obtain ⟨fu0, fu1, _, _⟩ := xu9.two
          go_wp2_with (fail)
          refine (known_c _).mono ?_
          rintro e w10 ⟨rfl, hb10⟩
          have hk10 := bl_call hk9 hb10
          have xt10 := xt9.call hb10
          have xu10 := xu9.call hb10
          clear ft0 ft1 fu0 fu1 hk9 xt9 xu9
          obtain ⟨ft0, ft1, _, _⟩ := xt10.two
          obtain ⟨fu0, fu1, _, _⟩ := xu10.two
          go_wp2_with (fail)
          go_ret
          exact ⟨rfl, hk10⟩
      · have hE' : (bstE l fs k == 0) = false := by rw [beq_eq_false_iff_ne]; exact hE
        clear HK HF HFF HB HP hE
        generalize bstG l fs k = t at *
        generalize bstE l fs k = z at *
        go_enter Try.func11, Try.ntmps11
        go_wp2_with (fail)
        refine (Long_c _ _ _ _).mono ?_
        rintro e q1 ⟨rfl, rfl⟩
        rw [hd]
        go_wp2_with (fail)
        refine ((HBk _ hr hs).out).mono ?_
        rintro e w2 ⟨rfl, hb2⟩
        have hk2 := hb2
        have hn3 := bl_alloc (Below.refl w2.heap.size w2) (.cells #[.int .i64 t.1, .int .i64 t.2] 30)
        have y3 : Bx (w2.alloc (.cells #[.int .i64 t.1, .int .i64 t.2] 30)) w2.heap.size 30 #[.int .i64 t.1, .int .i64 t.2] := Bx.new w2 _ _
        have hk3 := bl_call hk2 hn3
        clear hk2
        clear hn3
        obtain ⟨ft0, ft1, _, _⟩ := y3.two
        go_wp2_with (fail)
        refine (known_c _).mono ?_
        rintro e w4 ⟨rfl, hb4⟩
        have hk4 := bl_call hk3 hb4
        have xt4 := y3.call hb4
        clear ft0 ft1 hk3 y3
        obtain ⟨ft0, ft1, _, _⟩ := xt4.two
        go_wp2_with (fail)
        go_ret
        exact ⟨rfl, hk4⟩
end Go.Proofs.Ytgbjglkiaoplmaa
