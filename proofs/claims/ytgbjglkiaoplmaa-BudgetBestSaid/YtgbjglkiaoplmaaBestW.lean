/- The walk of 'BudgetBest'. -/
import Derived.Test.YtgbjglkiaoplmaaPaysW
import Derived.Test.YtgbjglkiaoplmaaRbs
namespace Go.Proofs.Ytgbjglkiaoplmaa
open Go.RowKit

theorem best_more {l : List It} {fs : List Fx} {k : Int} (h : bstE l fs k = 0) (hk : k < 792) : bstE l fs (k + 1) = 0 ∧ (bstG l fs (k + 1)).1 * (bstG l fs k).2 ≤ (bstG l fs k).1 * (bstG l fs (k + 1)).2 := by
  obtain ⟨h1, h2, h3⟩ := bstE_ok h
  have hE : bstE l fs (k + 1) = 0 := by unfold bstE; rw [if_pos h1, if_pos (by omega)]
  refine ⟨hE, ?_⟩
  have g1 : bstG l fs k = rat (bestL l fs k) := by unfold bstG; rw [if_pos h]
  have g2 : bstG l fs (k + 1) = rat (bestL l fs (k + 1)) := by unfold bstG; rw [if_pos hE]
  rw [g1, g2]
  have hm := best_mono (l := l) (fs := fs) h2 (show k ≤ k + 1 by omega)
  have hr := rat_lt (bestL l fs k) (bestL l fs (k + 1))
  omega
set_option maxRecDepth 100000 in
set_option maxHeartbeats 4000000 in
theorem budgetBest_walk (A : Option Addr) (l : List It) (cap : Nat) (B : Option Addr) (fs : List Fx) (cap2 : Nat) (k : Int) (w : World) (_hcap : l.length ≤ cap) (_hcap2 : fs.length ≤ cap2) (hr : Rd w A (cellsI l)) (hs : Rd w B (cellsF fs)) (_hk : (Lit.int .i64 k).wf = true) :
    Calls Try.prog 10 #[.slice A l.length cap, .slice B fs.length cap2, .int .i64 k] w fun e w' => e = .returned (.bool true) ∧ Below w.heap.size w w' := by
  by_cases hL : 50 < l.length
  · have hd : decide (50 < l.length) = true := decide_eq_true hL
    go_enter Try.func10, Try.ntmps10
    go_wp2_with (fail)
    refine (Long_c _ _ _ _).mono ?_
    rintro e q1 ⟨rfl, rfl⟩
    rw [hd]
    go_wp2_with (fail)
    refine (known_c _).mono ?_
    rintro e w2 ⟨rfl, hb2⟩
    have hk2 := hb2
    go_wp2_with (fail)
    go_ret
    exact ⟨rfl, hk2⟩
  · have hd : decide (50 < l.length) = false := decide_eq_false hL
    by_cases hL2 : 50 < fs.length
    · have hL3 : (50 : Int) < (fs.length : Int) := by omega
      go_enter Try.func10, Try.ntmps10
      go_wp2_with (fail)
      refine (Long_c _ _ _ _).mono ?_
      rintro e q1 ⟨rfl, rfl⟩
      rw [hd]
      go_wp2_with (fail)
      refine (known_c _).mono ?_
      rintro e w2 ⟨rfl, hb2⟩
      have hk2 := hb2
      go_wp2_with (fail)
      go_ret
      exact ⟨rfl, hk2⟩
    · have hL3 : ¬ (50 : Int) < (fs.length : Int) := by omega
      have HB := fun k w hr hs => Lib.hid (Best_c A l cap B fs cap2 k w (by omega) (by omega) hr hs)
      have HR := fun w hr hs => Lib.hid (rBest_c A l cap B fs cap2 k w (by omega) (by omega) hr hs)
      have HFF := Lib.hid (fun k => @best_fair l fs k)
      have HM := Lib.hid (@best_more l fs k)
      have HBk := HB k
      by_cases hE : bstE l fs k = 0
      · rw [hE] at HBk HR
        by_cases hk : 792 ≤ k
        · clear hE HB HFF HM
          generalize bstG l fs k = t at *
          go_enter Try.func10, Try.ntmps10
          go_wp2_with (fail)
          refine (Long_c _ _ _ _).mono ?_
          rintro e q1 ⟨rfl, rfl⟩
          rw [hd]
          go_wp2_with (fail)
          refine ((HBk _ hr hs).out).mono ?_
          rintro e w2 ⟨rfl, hb2⟩
          have hk2 := hb2
          have hn3 := bl_alloc (Below.refl w2.heap.size w2) (.cells #[.int .i64 t.1, .int .i64 t.2] 30)
          have y3 : Bx (w2.alloc (.cells #[.int .i64 t.1, .int .i64 t.2] 30)) w2.heap.size 30 #[.int .i64 t.1, .int .i64 t.2] := Bx.new w2 _ _
          have hk3 := bl_call hk2 hn3
          clear hk2
          clear hn3
          obtain ⟨ft0, ft1, _, _⟩ := y3.two
          go_wp2_with (fail)
          refine ((HR _ (hr.later hk3) (hs.later hk3)).out).mono ?_
          rintro e w4 ⟨rfl, hb4⟩
          have hk4 := bl_call hk3 hb4
          have xt4 := y3.call hb4
          clear ft0 ft1 hk3 y3
          obtain ⟨ft0, ft1, _, _⟩ := xt4.two
          have hn5 := bl_alloc (Below.refl w4.heap.size w4) (.cells #[.int .i64 t.1, .int .i64 t.2] 30)
          have y5 : Bx (w4.alloc (.cells #[.int .i64 t.1, .int .i64 t.2] 30)) w4.heap.size 30 #[.int .i64 t.1, .int .i64 t.2] := Bx.new w4 _ _
          have hk5 := bl_call hk4 hn5
          have xt5 := xt4.call hn5
          clear ft0 ft1 hk4 xt4
          clear hn5
          obtain ⟨ft0, ft1, _, _⟩ := xt5.two
          obtain ⟨fs0, fs1, _, _⟩ := y5.two
          go_wp2_with (fail)
          refine (known_c _).mono ?_
          rintro e w6 ⟨rfl, hb6⟩
          have hk6 := bl_call hk5 hb6
          have xt6 := xt5.call hb6
          have xs6 := y5.call hb6
          clear ft0 ft1 fs0 fs1 hk5 xt5 y5
          obtain ⟨ft0, ft1, _, _⟩ := xt6.two
          obtain ⟨fs0, fs1, _, _⟩ := xs6.two
          go_wp2_with (fail)
          go_ret
          exact ⟨rfl, hk6⟩
        · obtain ⟨g1, g2⟩ := HM.out hE (by omega)
          have f1 := HFF.out k hE
          have f2 := HFF.out (k + 1) g1
          have hk0 := (bstE_ok hE).2.1
          have HFt := fun W => Lib.hid (fair2_c f1 W)
          have HFu := fun W => Lib.hid (fair2_c f2 W)
          have HLs := fun W => Lib.hid (lless2_c f1 f2 (by omega) W)
          have HBn := HB (k + 1)
          rw [g1] at HBn
          have hw : wrap64 (k + 1) = k + 1 := IntWalk.wrap64_in _ ⟨by omega, by omega⟩
          have hk' : ¬ 792 ≤ k := hk
          clear hE HB HFF HM g1 g2 f1 f2 hk0 hk
          generalize bstG l fs (k + 1) = u at *
          generalize bstG l fs k = t at *
          go_enter Try.func10, Try.ntmps10
          go_wp2_with (fail)
          refine (Long_c _ _ _ _).mono ?_
          rintro e q1 ⟨rfl, rfl⟩
          rw [hd]
          go_wp2_with (fail)
          refine ((HBk _ hr hs).out).mono ?_
          rintro e w2 ⟨rfl, hb2⟩
          have hk2 := hb2
          have hn3 := bl_alloc (Below.refl w2.heap.size w2) (.cells #[.int .i64 t.1, .int .i64 t.2] 30)
          have y3 : Bx (w2.alloc (.cells #[.int .i64 t.1, .int .i64 t.2] 30)) w2.heap.size 30 #[.int .i64 t.1, .int .i64 t.2] := Bx.new w2 _ _
          have hk3 := bl_call hk2 hn3
          clear hk2
          clear hn3
          obtain ⟨ft0, ft1, _, _⟩ := y3.two
          go_wp2_with (fail)
          refine ((HR _ (hr.later hk3) (hs.later hk3)).out).mono ?_
          rintro e w4 ⟨rfl, hb4⟩
          have hk4 := bl_call hk3 hb4
          have xt4 := y3.call hb4
          clear ft0 ft1 hk3 y3
          obtain ⟨ft0, ft1, _, _⟩ := xt4.two
          have hn5 := bl_alloc (Below.refl w4.heap.size w4) (.cells #[.int .i64 t.1, .int .i64 t.2] 30)
          have y5 : Bx (w4.alloc (.cells #[.int .i64 t.1, .int .i64 t.2] 30)) w4.heap.size 30 #[.int .i64 t.1, .int .i64 t.2] := Bx.new w4 _ _
          have hk5 := bl_call hk4 hn5
          have xt5 := xt4.call hn5
          clear ft0 ft1 hk4 xt4
          clear hn5
          obtain ⟨ft0, ft1, _, _⟩ := xt5.two
          obtain ⟨fs0, fs1, _, _⟩ := y5.two
          go_wp2_with (fail)
          rw [hw]
          refine ((HBn _ (hr.later hk5) (hs.later hk5)).out).mono ?_
          rintro e w6 ⟨rfl, hb6⟩
          have hk6 := bl_call hk5 hb6
          have xt6 := xt5.call hb6
          have xs6 := y5.call hb6
          clear ft0 ft1 fs0 fs1 hk5 xt5 y5
          obtain ⟨ft0, ft1, _, _⟩ := xt6.two
          obtain ⟨fs0, fs1, _, _⟩ := xs6.two
          have hn7 := bl_alloc (Below.refl w6.heap.size w6) (.cells #[.int .i64 u.1, .int .i64 u.2] 30)
          have y7 : Bx (w6.alloc (.cells #[.int .i64 u.1, .int .i64 u.2] 30)) w6.heap.size 30 #[.int .i64 u.1, .int .i64 u.2] := Bx.new w6 _ _
          have hk7 := bl_call hk6 hn7
          have xt7 := xt6.call hn7
          have xs7 := xs6.call hn7
          clear ft0 ft1 fs0 fs1 hk6 xt6 xs6
          clear hn7
          obtain ⟨ft0, ft1, _, _⟩ := xt7.two
          obtain ⟨fs0, fs1, _, _⟩ := xs7.two
          obtain ⟨fu0, fu1, _, _⟩ := y7.two
          go_wp2_with (fail)
          refine ((HFt _).out).mono ?_
          rintro e w8 ⟨rfl, hb8⟩
          have hk8 := bl_call hk7 hb8
          have xt8 := xt7.call hb8
          have xs8 := xs7.call hb8
          have xu8 := y7.call hb8
          clear ft0 ft1 fs0 fs1 fu0 fu1 hk7 xt7 xs7 y7
          obtain ⟨ft0, ft1, _, _⟩ := xt8.two
          obtain ⟨fs0, fs1, _, _⟩ := xs8.two
          obtain ⟨fu0, fu1, _, _⟩ := xu8.two
          go_wp2_with (fail)
          refine ((HFu _).out).mono ?_
          rintro e w9 ⟨rfl, hb9⟩
          have hk9 := bl_call hk8 hb9
          have xt9 := xt8.call hb9
          have xs9 := xs8.call hb9
          have xu9 := xu8.call hb9
          clear ft0 ft1 fs0 fs1 fu0 fu1 hk8 xt8 xs8 xu8
          obtain ⟨ft0, ft1, _, _⟩ := xt9.two
          obtain ⟨fs0, fs1, _, _⟩ := xs9.two
          obtain ⟨fu0, fu1, _, _⟩ := xu9.two
          go_wp2_with (fail)
          refine ((HLs _).out).mono ?_
          rintro e w10 ⟨rfl, hb10⟩
          have hk10 := bl_call hk9 hb10
          have xt10 := xt9.call hb10
          have xs10 := xs9.call hb10
          have xu10 := xu9.call hb10
          clear ft0 ft1 fs0 fs1 fu0 fu1 hk9 xt9 xs9 xu9
          obtain ⟨ft0, ft1, _, _⟩ := xt10.two
          obtain ⟨fs0, fs1, _, _⟩ := xs10.two
          obtain ⟨fu0, fu1, _, _⟩ := xu10.two
          go_wp2_with (fail)
          refine (known_c _).mono ?_
          rintro e w11 ⟨rfl, hb11⟩
          have hk11 := bl_call hk10 hb11
          have xt11 := xt10.call hb11
          have xs11 := xs10.call hb11
          have xu11 := xu10.call hb11
          clear ft0 ft1 fs0 fs1 fu0 fu1 hk10 xt10 xs10 xu10
          obtain ⟨ft0, ft1, _, _⟩ := xt11.two
          obtain ⟨fs0, fs1, _, _⟩ := xs11.two
          obtain ⟨fu0, fu1, _, _⟩ := xu11.two
          go_wp2_with (fail)
          go_ret
          exact ⟨rfl, hk11⟩
      · have hE' : (bstE l fs k == 0) = false := by rw [beq_eq_false_iff_ne]; exact hE
        clear HB HFF HM
        generalize bstG l fs k = t at *
        generalize bstE l fs k = z at *
        go_enter Try.func10, Try.ntmps10
        go_wp2_with (fail)
        refine (Long_c _ _ _ _).mono ?_
        rintro e q1 ⟨rfl, rfl⟩
        rw [hd]
        go_wp2_with (fail)
        refine ((HBk _ hr hs).out).mono ?_
        rintro e w2 ⟨rfl, hb2⟩
        have hk2 := hb2
        have hn3 := bl_alloc (Below.refl w2.heap.size w2) (.cells #[.int .i64 t.1, .int .i64 t.2] 30)
        have y3 : Bx (w2.alloc (.cells #[.int .i64 t.1, .int .i64 t.2] 30)) w2.heap.size 30 #[.int .i64 t.1, .int .i64 t.2] := Bx.new w2 _ _
        have hk3 := bl_call hk2 hn3
        clear hk2
        clear hn3
        obtain ⟨ft0, ft1, _, _⟩ := y3.two
        go_wp2_with (fail)
        refine ((HR _ (hr.later hk3) (hs.later hk3)).out).mono ?_
        rintro e w4 ⟨rfl, hb4⟩
        have hk4 := bl_call hk3 hb4
        have xt4 := y3.call hb4
        clear ft0 ft1 hk3 y3
        obtain ⟨ft0, ft1, _, _⟩ := xt4.two
        have hn5 := bl_alloc (Below.refl w4.heap.size w4) (.cells #[.int .i64 t.1, .int .i64 t.2] 30)
        have y5 : Bx (w4.alloc (.cells #[.int .i64 t.1, .int .i64 t.2] 30)) w4.heap.size 30 #[.int .i64 t.1, .int .i64 t.2] := Bx.new w4 _ _
        have hk5 := bl_call hk4 hn5
        have xt5 := xt4.call hn5
        clear ft0 ft1 hk4 xt4
        clear hn5
        obtain ⟨ft0, ft1, _, _⟩ := xt5.two
        obtain ⟨fs0, fs1, _, _⟩ := y5.two
        go_wp2_with (fail)
        refine (known_c _).mono ?_
        rintro e w6 ⟨rfl, hb6⟩
        have hk6 := bl_call hk5 hb6
        have xt6 := xt5.call hb6
        have xs6 := y5.call hb6
        clear ft0 ft1 fs0 fs1 hk5 xt5 y5
        obtain ⟨ft0, ft1, _, _⟩ := xt6.two
        obtain ⟨fs0, fs1, _, _⟩ := xs6.two
        go_wp2_with (fail)
        go_ret
        exact ⟨rfl, hk6⟩
end Go.Proofs.Ytgbjglkiaoplmaa
