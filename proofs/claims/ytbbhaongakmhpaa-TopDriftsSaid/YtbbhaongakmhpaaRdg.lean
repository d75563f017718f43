/- Contracts of the small functions: which readings, rates and times are right; package drift's and the specification's. -/
import Derived.Test.YtbbhaongakmhpaaLowT
namespace Go.Proofs.Ytbbhaongakmhpaa
open Go.RowKit

def oneB (x c : Int) : Bool := decide (0 ≤ x) && decide (x < c)
theorem oneB_z {x c : Int} : oneB x c = true ↔ 0 ≤ x ∧ x < c := by simp [oneB]
theorem isOneOf_c (x c : Int) (w : World) : Calls Try.prog 63 #[.int .i64 x, .int .i64 c] w fun e w' => e = .returned (.bool (oneB x c)) ∧ w = w' := by
  by_cases h1 : 0 ≤ x
  · by_cases h2 : x < c
    all_goals
      go_enter Try.func63, Try.ntmps63
      go_wp2
      go_ret
      exact ⟨ret_b (by simp [oneB]; omega), rfl⟩
  · go_enter Try.func63, Try.ntmps63
    go_wp2
    go_ret
    exact ⟨ret_b (by simp [oneB]; omega), rfl⟩
theorem within_c (n lo hi : Int) (w : World) : Calls Try.prog 62 #[.int .i64 n, .int .i64 lo, .int .i64 hi] w fun e w' => e = .returned (.bool (inB n lo hi)) ∧ w = w' := by
  by_cases h1 : lo ≤ n
  · by_cases h2 : n ≤ hi
    all_goals
      go_enter Try.func62, Try.ntmps62
      go_wp2
      go_ret
      exact ⟨ret_b (by simp [inB]; omega), rfl⟩
  · go_enter Try.func62, Try.ntmps62
    go_wp2
    go_ret
    exact ⟨ret_b (by simp [inB]; omega), rfl⟩
theorem isValue_c (n : Int) (w : World) : Calls Try.prog 78 #[.int .i64 n] w fun e w' => e = .returned (.bool (inB n (-1000) 1000)) ∧ w = w' := by
  by_cases h1 : -1000 ≤ n
  · by_cases h2 : n ≤ 1000
    all_goals
      go_enter Try.func78, Try.ntmps78
      go_wp2
      go_ret
      exact ⟨ret_b (by simp [inB]; omega), rfl⟩
  · go_enter Try.func78, Try.ntmps78
    go_wp2
    go_ret
    exact ⟨ret_b (by simp [inB]; omega), rfl⟩
theorem isRate_c (n : Int) (w : World) : Calls Try.prog 64 #[.int .i64 n] w fun e w' => e = .returned (.bool (inB n 0 9)) ∧ w = w' := by
  by_cases h1 : 0 ≤ n
  · by_cases h2 : n ≤ 9
    all_goals
      go_enter Try.func64, Try.ntmps64
      go_wp2
      go_ret
      exact ⟨ret_b (by simp [inB]; omega), rfl⟩
  · go_enter Try.func64, Try.ntmps64
    go_wp2
    go_ret
    exact ⟨ret_b (by simp [inB]; omega), rfl⟩
/-- Numbers that are no farther than the program's integers go. -/
def Small (a : Int) : Prop := -1000000 ≤ a ∧ a ≤ 1000000
theorem distance_c (a b : Int) (w : World) (ha : Small a) (hb : Small b) : Calls Try.prog 67 #[.int .i64 a, .int .i64 b] w fun e w' => e = .returned (.int .i64 (farI a b)) ∧ w = w' := by
  obtain ⟨a0, a1⟩ := ha
  obtain ⟨b0, b1⟩ := hb
  have hw : wrap64 (max a b - min a b) = max a b - min a b := IntWalk.wrap64_in _ ⟨by omega, by omega⟩
  have hf : farI a b = max a b - min a b := rfl
  generalize farI a b = f at hf
  go_enter Try.func67, Try.ntmps67
  go_wp2
  all_goals
    go_ret
    exact ⟨ret_i (by omega), rfl⟩
theorem far_c (a b : Int) (w : World) (ha : Small a) (hb : Small b) : Calls Try.prog 69 #[.int .i64 a, .int .i64 b] w fun e w' => e = .returned (.int .i64 (farI a b)) ∧ w = w' := by
  obtain ⟨a0, a1⟩ := ha
  obtain ⟨b0, b1⟩ := hb
  have hw : wrap64 (a - b) = a - b := IntWalk.wrap64_in _ ⟨by omega, by omega⟩
  have hw2 : wrap64 (b - a) = b - a := IntWalk.wrap64_in _ ⟨by omega, by omega⟩
  have hf := farI_abs a b
  generalize farI a b = f at hf
  go_enter Try.func69, Try.ntmps69
  go_wp2
  all_goals
    go_ret
    exact ⟨ret_i (by omega), rfl⟩
set_option maxHeartbeats 1000000 in
theorem isReading_c (t l h : Int) (w : World) : Calls Try.prog 61 #[.agg #[.int .i64 t, .int .i64 l, .int .i64 h]] w fun e w' => e = .returned (.bool (rdB (t, l, h))) ∧ Below w.heap.size w w' := by
  have HL := fun w => Lib.hid (isValue_c l w)
  have HH := fun w => Lib.hid (isValue_c h w)
  have hb0 := bl_alloc (Below.refl w.heap.size w) (.cells #[.int .i64 t, .int .i64 l, .int .i64 h] 55)
  have HV : Hid (rdB (t, l, h) = (decide (0 ≤ t) && decide (t ≤ 1000) && inB l (-1000) 1000 && inB h (-1000) 1000 && decide (l ≤ h))) := rfl
  generalize inB l (-1000) 1000 = v at HL HV
  generalize inB h (-1000) 1000 = u at HH HV
  generalize rdB (t, l, h) = res at HV
  go_enter Try.func61, Try.ntmps61
  go_wp2_with (go_at_call 78; first | (refine (HL _).out.mono ?_; rintro e w1 ⟨rfl, rfl⟩) | (refine (HH _).out.mono ?_; rintro e w1 ⟨rfl, rfl⟩))
  all_goals
    go_ret
    refine ⟨ret_b ?_, hb0⟩
    rw [HV.out]
    (simp [*]) <;> (try omega)
end Go.Proofs.Ytbbhaongakmhpaa
