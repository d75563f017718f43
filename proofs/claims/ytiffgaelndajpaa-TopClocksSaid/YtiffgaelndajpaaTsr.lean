/- Turn, Shift and Relax: package clock's. -/
import Derived.Test.YtiffgaelndajpaaChg2
namespace Go.Proofs.Ytiffgaelndajpaa
open Go.RowKit

def turE (l : List T3) : Int := validE l
def turL (l : List T3) : List T3 := if validE l = 0 then l.map turnJ else []
theorem Turn_c (A : Option Addr) (l : List T3) (c : Nat) (w : World) (hlen : l.length ≤ 1000) (hr : Rd w A (cellsT l)) :
    Calls Try.prog 44 #[.slice A l.length c] w (OutT 40 (turL l) (validE l) w) := by
  have HC := Lib.hid (changedT_c A l c w hlen hr)
  obtain ⟨e1, e2⟩ := chg_turn l
  rw [e1, e2] at HC
  have e3 : turL l = if validE l = 0 then l.map turnJ else [] := rfl
  rw [← e3] at HC
  clear e1 e2 e3
  generalize turL l = M at *
  generalize validE l = v at *
  go_enter Try.func44, Try.ntmps44
  go_wp2_with (fail)
  refine HC.out.mono ?_
  rintro e w1 ⟨A1, c1, rfl, ho1, hb1⟩
  go_wp2_with (fail)
  go_ret2
  exact ⟨A1, c1, rfl, ho1, hb1⟩
theorem wrap_far {x by_ : Int} (h0 : 1 ≤ x) (h1 : x ≤ 60) (hb : (Lit.int .i64 by_).wf = true) (hr : inB by_ (-60) 60 = false) : ¬ (0 ≤ wrap64 (x + by_) ∧ wrap64 (x + by_) ≤ 60) := by
  have hb' : -9223372036854775808 ≤ by_ ∧ by_ ≤ 9223372036854775807 := by
    simp only [Lit.wf, IntKind.min, IntKind.max, IntKind.signed, IntKind.bits, Bool.and_eq_true, decide_eq_true_eq, if_true] at hb
    omega
  rw [inB_no] at hr
  unfold wrap64
  omega
theorem sh_same {by_ : Int} (h : inB by_ (-60) 60 = true) (j : T3) (hj : Job4 j) : shJ by_ j = addJ by_ by_ j := by
  obtain ⟨a, b⟩ := inB_z.1 h
  have h1 := hj.f0
  have h2 := hj.fb
  have h3 := hj.b1
  unfold shJ addJ
  rw [IntWalk.wrap64_in _ (by omega), IntWalk.wrap64_in _ (by omega)]
theorem rl_same {by_ : Int} (h : inB by_ (-60) 60 = true) (j : T3) (hj : Job4 j) : rlJ by_ j = addJ 0 by_ j := by
  obtain ⟨a, b⟩ := inB_z.1 h
  have h1 := hj.f0
  have h2 := hj.fb
  have h3 := hj.b1
  unfold rlJ addJ
  rw [IntWalk.wrap64_in _ (by omega), Int.add_zero]
theorem sh_bad {by_ : Int} (hb : (Lit.int .i64 by_).wf = true) (h : inB by_ (-60) 60 = false) (j : T3) (hj : Job4 j) : jobB (shJ by_ j) = false := by
  have h1 := wrap_far (x := j.2.1) (by have := hj.f0; have := hj.fb; omega) hj.b1 hb h
  rw [← Bool.not_eq_true, jobB_job4]
  rintro ⟨h2, _⟩
  have h3 : 0 ≤ wrap64 (j.1 + by_) := h2.f0
  have h4 : wrap64 (j.1 + by_) < wrap64 (j.2.1 + by_) := h2.fb
  have h5 : wrap64 (j.2.1 + by_) ≤ 60 := h2.b1
  omega
theorem rl_bad {by_ : Int} (hb : (Lit.int .i64 by_).wf = true) (h : inB by_ (-60) 60 = false) (j : T3) (hj : Job4 j) : jobB (rlJ by_ j) = false := by
  have h1 := wrap_far (x := j.2.1) (by have := hj.f0; have := hj.fb; omega) hj.b1 hb h
  rw [← Bool.not_eq_true, jobB_job4]
  rintro ⟨h2, _⟩
  have h3 : 0 ≤ j.1 := h2.f0
  have h4 : j.1 < wrap64 (j.2.1 + by_) := h2.fb
  have h5 : wrap64 (j.2.1 + by_) ≤ 60 := h2.b1
  omega
set_option maxRecDepth 100000 in
theorem Shift_c (A : Option Addr) (l : List T3) (c : Nat) (by_ : Int) (w : World) (hby : (Lit.int .i64 by_).wf = true) (hlen : l.length ≤ 1000) (hr : Rd w A (cellsT l)) :
    Calls Try.prog 47 #[.slice A l.length c, .int .i64 by_] w (OutT 40 (movL by_ by_ l) (movE by_ by_ l) w) := by
  have hb0 := bl_alloc (Below.refl w.heap.size w) (.cells #[.int .i64 by_] 3)
  have hx0 : Bx (w.alloc (.cells #[.int .i64 by_] 3)) w.heap.size 3 #[.int .i64 by_] := Bx.new _ _ _
  have HC := Lib.hid (changedS_c A l c w.heap.size by_ _ hlen (hr.later hb0) hx0.one.1)
  obtain ⟨e1, e2⟩ := chg_mov (g := shJ by_) (f := by_) (b := by_) (l := l) sh_same (sh_bad hby)
  rw [e1, e2] at HC
  clear e1 e2
  generalize movL by_ by_ l = M at *
  generalize movE by_ by_ l = v at *
  go_enter Try.func47, Try.ntmps47
  go_wp2_with (fail)
  refine HC.out.mono ?_
  rintro e w1 ⟨A1, c1, rfl, ho1, hb1⟩
  go_wp2_with (fail)
  go_ret2
  exact ⟨A1, c1, rfl, own_base ho1 hb0.size, bl_call hb0 hb1⟩
set_option maxRecDepth 100000 in
theorem Relax_c (A : Option Addr) (l : List T3) (c : Nat) (by_ : Int) (w : World) (hby : (Lit.int .i64 by_).wf = true) (hlen : l.length ≤ 1000) (hr : Rd w A (cellsT l)) :
    Calls Try.prog 49 #[.slice A l.length c, .int .i64 by_] w (OutT 40 (movL 0 by_ l) (movE 0 by_ l) w) := by
  have hb0 := bl_alloc (Below.refl w.heap.size w) (.cells #[.int .i64 by_] 3)
  have hx0 : Bx (w.alloc (.cells #[.int .i64 by_] 3)) w.heap.size 3 #[.int .i64 by_] := Bx.new _ _ _
  have HC := Lib.hid (changedR_c A l c w.heap.size by_ _ hlen (hr.later hb0) hx0.one.1)
  obtain ⟨e1, e2⟩ := chg_mov (g := rlJ by_) (f := 0) (b := by_) (l := l) rl_same (rl_bad hby)
  rw [e1, e2] at HC
  clear e1 e2
  generalize movL 0 by_ l = M at *
  generalize movE 0 by_ l = v at *
  go_enter Try.func49, Try.ntmps49
  go_wp2_with (fail)
  refine HC.out.mono ?_
  rintro e w1 ⟨A1, c1, rfl, ho1, hb1⟩
  go_wp2_with (fail)
  go_ret2
  exact ⟨A1, c1, rfl, own_base ho1 hb0.size, bl_call hb0 hb1⟩
end Go.Proofs.Ytiffgaelndajpaa
