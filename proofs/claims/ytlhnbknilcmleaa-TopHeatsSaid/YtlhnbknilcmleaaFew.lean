/- The fewest coolings and the windows that package heat returns. -/
import Derived.Test.YtlhnbknilcmleaaWin
namespace Go.Proofs.Ytlhnbknilcmleaa
open Go.RowKit

/-- A new list of threes of type T, and an error. -/
def OutT (T : TypeId) (l : List T3) (x : Int) (w : World) (e : Ending) (w' : World) : Prop :=
  ∃ A' c', e = .returned (.tuple #[.slice A' l.length c', .int .i64 x]) ∧ w'.ownsRow w.heap.size T 3 (.slice A' l.length c') l.length (cellsT l) ∧ Below w.heap.size w w'
def OutI (l : List Int) (x : Int) (w : World) (e : Ending) (w' : World) : Prop :=
  ∃ A' c', e = .returned (.tuple #[.slice A' l.length c', .int .i64 x]) ∧ w'.ownsRow w.heap.size 3 1 (.slice A' l.length c') l.length (ints l) ∧ Below w.heap.size w w'
def fewG (n : Int) (l : List T3) (lim : Int) : Int := if limE n l lim = 0 then few lim l else 0
theorem fewG_ok {n : Int} {l : List T3} {lim : Int} (h : limE n l lim = 0) : fewG n l lim = few lim l := by rw [fewG, if_pos h]
def winsG (n : Int) (l : List T3) (lim : Int) : List T3 := if limE n l lim = 0 then winL lim l else []

theorem limE_len {n : Int} {l : List T3} {lim : Int} (h : limE n l lim = 0) : l.length ≤ 20 ∧ Acts l ∧ 0 ≤ lim ∧ lim ≤ 100 := by
  obtain ⟨hv, h0, h1⟩ := limE_zero.1 h
  exact ⟨(validE_zero.1 hv).2.1, validE_acts hv, h0, h1⟩

set_option maxRecDepth 100000 in
theorem Fewest_c (n : Int) (A : Option Addr) (l : List T3) (c : Nat) (lim : Int) (w : World) (hlen : l.length ≤ 1000) (hr : Rd w A (cellsT l)) :
    Calls Try.prog 34 #[.int .i64 n, .slice A l.length c, .int .i64 lim] w fun e w' => e = .returned (.tuple #[.int .i64 (fewG n l lim), .int .i64 (limE n l lim)]) ∧ Below w.heap.size w w' := by
  have HV := Lib.hid (validateBy_c n A l c lim w hlen hr)
  by_cases hv : limE n l lim = 0
  · obtain ⟨h20, ha, hl0, hl1⟩ := limE_len hv
    have HS := fun (w1 : World) (h : Rd w1 A (cellsT l)) => Lib.hid (windowsOf_c A l c lim w1 h20 ha ⟨hl0, hl1⟩ h)
    have HB : fewG n l lim = ((winL lim l).length : Int) := by rw [fewG, if_pos hv, winL_len ha]
    rw [hv] at HV
    rw [hv, HB]
    clear HB hv ha hl0 hl1
    generalize winL lim l = F at *
    go_enter Try.func34, Try.ntmps34
    go_wp2_with (go_at_call 61; refine HV.out.mono ?_; rintro e w1 ⟨rfl, hb1⟩)
    refine (HS _ (hr.later hb1)).out.mono ?_
    rintro e w2 ⟨A2, c2, rfl, ho2, hb2⟩
    go_wp2_with (fail)
    go_ret2
    exact ⟨rfl, bl_call hb1 hb2⟩
  · have HB : fewG n l lim = 0 := by rw [fewG, if_neg hv]
    have hv' : (limE n l lim != 0) = true := by simpa using hv
    rw [HB]
    clear HB
    generalize limE n l lim = ev at *
    go_enter Try.func34, Try.ntmps34
    go_wp2_with (go_at_call 61; refine HV.out.mono ?_; rintro e w1 ⟨rfl, hb1⟩)
    go_ret2
    exact ⟨rfl, hb1⟩
set_option maxRecDepth 100000 in
theorem Windows_c (n : Int) (A : Option Addr) (l : List T3) (c : Nat) (lim : Int) (w : World) (hlen : l.length ≤ 1000) (hr : Rd w A (cellsT l)) :
    Calls Try.prog 41 #[.int .i64 n, .slice A l.length c, .int .i64 lim] w (OutT 67 (winsG n l lim) (limE n l lim) w) := by
  have HV := Lib.hid (validateBy_c n A l c lim w hlen hr)
  by_cases hv : limE n l lim = 0
  · obtain ⟨h20, ha, hl0, hl1⟩ := limE_len hv
    have HS := fun (w1 : World) (h : Rd w1 A (cellsT l)) => Lib.hid (windowsOf_c A l c lim w1 h20 ha ⟨hl0, hl1⟩ h)
    have HB : winsG n l lim = winL lim l := by rw [winsG, if_pos hv]
    rw [hv] at HV
    rw [hv, HB]
    clear HB hv ha hl0 hl1
    generalize winL lim l = F at *
    go_enter Try.func41, Try.ntmps41
    go_wp2_with (go_at_call 61; refine HV.out.mono ?_; rintro e w1 ⟨rfl, hb1⟩)
    refine (HS _ (hr.later hb1)).out.mono ?_
    rintro e w2 ⟨A2, c2, rfl, ho2, hb2⟩
    go_wp2_with (fail)
    go_ret2
    exact ⟨A2, c2, rfl, own_base ho2 hb1.size, bl_call hb1 hb2⟩
  · have HB : winsG n l lim = [] := by rw [winsG, if_neg hv]
    have hv' : (limE n l lim != 0) = true := by simpa using hv
    rw [HB]
    clear HB
    generalize limE n l lim = ev at *
    go_enter Try.func41, Try.ntmps41
    go_wp2_with (go_at_call 61; refine HV.out.mono ?_; rintro e w1 ⟨rfl, hb1⟩)
    go_ret2
    exact ⟨none, 0, rfl, World.ownsRow_nil _ _ _ _, hb1⟩
end Go.Proofs.Ytlhnbknilcmleaa
