/- Readings without one: package drift's. -/
import Derived.Test.YtbbhaongakmhpaaDelR
import Derived.Test.YtbbhaongakmhpaaVal
import Derived.Test.YtbbhaongakmhpaaDrfX
namespace Go.Proofs.Ytbbhaongakmhpaa
open Go.RowKit

/-- A new list of threes, and an error. -/
abbrev OutR (l : List T3) (x : Int) (w : World) (e : Ending) (w' : World) : Prop := OutT 55 l x w e w'
theorem drop_erase (l : List T3) (k : Nat) : l.eraseIdx k = dropK l k := List.eraseIdx_eq_take_drop_succ l k
set_option maxRecDepth 100000 in
set_option maxHeartbeats 1000000 in
theorem without_c (A : Option Addr) (l : List T3) (cap k : Nat) (w : World) (hlen : l.length ≤ 1000) (hk : k < l.length) (hr : Rd w A (cellsT l)) :
    Calls Try.prog 80 #[.slice A l.length cap, .int .i64 (k : Int)] w fun e w' => ∃ A' c', e = .returned (.slice A' (dropK l k).length c') ∧ w'.ownsRow w.heap.size 55 3 (.slice A' (dropK l k).length c') (dropK l k).length (cellsT (dropK l k)) ∧ Below w.heap.size w w' := by
  have HC := Lib.hid (cloneR_c A l cap w hlen hr)
  have HD := fun base A' c' w1 h => Lib.hid (deleteR_c base A' l c' k w1 hlen hk h)
  rw [drop_erase] at HD
  have e5 : wrap64 ((k : Int) + 1) = (k : Int) + 1 := IntWalk.wrap64_in _ ⟨by omega, by omega⟩
  generalize dropK l k = M at *
  go_enter Try.func80, Try.ntmps80
  go_wp2_with (fail)
  refine HC.out.mono ?_
  rintro e w3 ⟨A3, c3, rfl, ho3, hb3⟩
  go_wp2_with (fail)
  refine (HD w.heap.size A3 c3 w3 ho3).out.mono ?_
  rintro e w4 ⟨rfl, ho4, hb4⟩
  go_wp2_with (fail)
  go_ret
  exact ⟨A3, c3, rfl, ho4, hb3.trans hb4⟩
def witE (l : List T3) (k : Int) : Int := if validE l = 0 then (if oneB k l.length = true then (if l.length = 1 then 8 else 0) else 4) else validE l
def witL (l : List T3) (k : Int) : List T3 := if witE l k = 0 then dropK l k.toNat else []
theorem wit_cases (l : List T3) (k : Int) : (validE l ≠ 0 ∧ witE l k = validE l ∧ witL l k = []) ∨ (validE l = 0 ∧ oneB k l.length = false ∧ witE l k = 4 ∧ witL l k = []) ∨ (validE l = 0 ∧ oneB k l.length = true ∧ l.length = 1 ∧ witE l k = 8 ∧ witL l k = []) ∨
    (validE l = 0 ∧ ∃ i : Nat, k = (i : Int) ∧ i < l.length ∧ l.length ≠ 1 ∧ witE l k = 0 ∧ witL l k = dropK l i) := by
  by_cases hv : validE l = 0
  · rcases h1 : oneB k l.length with _ | _
    · have e : witE l k = 4 := by rw [witE, if_pos hv, if_neg (by rw [h1]; decide)]
      exact .inr (.inl ⟨hv, rfl, e, by rw [witL, e]; rfl⟩)
    · by_cases h2 : l.length = 1
      · have e : witE l k = 8 := by rw [witE, if_pos hv, if_pos h1, if_pos h2]
        exact .inr (.inr (.inl ⟨hv, rfl, h2, e, by rw [witL, e]; rfl⟩))
      · obtain ⟨a, b⟩ := oneB_z.1 h1
        obtain ⟨i, rfl⟩ := Int.eq_ofNat_of_zero_le a
        have e : witE l i = 0 := by rw [witE, if_pos hv, if_pos h1, if_neg h2]
        exact .inr (.inr (.inr ⟨hv, i, rfl, by omega, h2, e, by rw [witL, if_pos e, Int.toNat_natCast]⟩))
  · have e : witE l k = validE l := by rw [witE, if_neg hv]
    exact .inl ⟨hv, e, by rw [witL, e, if_neg hv]⟩
set_option maxRecDepth 100000 in
set_option maxHeartbeats 2000000 in
theorem Without_c (A : Option Addr) (l : List T3) (c : Nat) (k : Int) (w : World) (hlen : l.length ≤ 1000) (hr : Rd w A (cellsT l)) :
    Calls Try.prog 52 #[.slice A l.length c, .int .i64 k] w (OutR (witL l k) (witE l k) w) := by
  have HV := Lib.hid (validate_c A l c w hlen hr)
  rcases wit_cases l k with ⟨hv, hE, hL⟩ | ⟨hv, h1, hE, hL⟩ | ⟨hv, h1, h2, hE, hL⟩ | ⟨hv, i, rfl, hil, h2, hE, hL⟩
  · have hv' : (validE l != 0) = true := by simpa using hv
    rw [hE, hL]
    clear hE hL
    generalize validE l = ev at *
    go_enter Try.func52, Try.ntmps52
    go_wp2_with (fail)
    refine HV.out.mono ?_
    rintro e w1 ⟨rfl, hb1⟩
    go_wp2_with (fail)
    go_ret2
    exact ⟨none, 0, rfl, World.ownsRow_nil _ _ _ _, hb1⟩
  · rw [hE, hL]
    rw [hv] at HV
    clear hE hL hv
    go_enter Try.func52, Try.ntmps52
    go_wp2_with (fail)
    refine HV.out.mono ?_
    rintro e w1 ⟨rfl, hb1⟩
    go_wp2_with (go_at_call 63; refine (isOneOf_c _ _ _).mono ?_; rintro e w2 ⟨rfl, rfl⟩)
    go_ret2
    exact ⟨none, 0, rfl, World.ownsRow_nil _ _ _ _, hb1⟩
  · rw [hE, hL]
    rw [hv] at HV
    have h2' : ((l.length : Int) == 1) = true := by rw [beq_iff_eq]; omega
    have h2n : (l.length : Int) = 1 := by omega
    have h1' : oneB k 1 = true := by rw [h2n] at h1; exact h1
    clear hE hL hv h2
    go_enter Try.func52, Try.ntmps52
    go_wp2_with (fail)
    refine HV.out.mono ?_
    rintro e w1 ⟨rfl, hb1⟩
    go_wp2_with (go_at_call 63; refine (isOneOf_c _ _ _).mono ?_; rintro e w2 ⟨rfl, rfl⟩)
    go_ret2
    exact ⟨none, 0, rfl, World.ownsRow_nil _ _ _ _, hb1⟩
  · have ho : oneB (i : Int) l.length = true := by rw [oneB_z]; omega
    have HC := fun w1 h => Lib.hid (without_c A l c i w1 hlen hil h)
    rw [hE, hL]
    rw [hv] at HV
    have h2' : ((l.length : Int) == 1) = false := by rw [beq_eq_false_iff_ne]; omega
    clear hE hL hv h2
    generalize dropK l i = M at *
    go_enter Try.func52, Try.ntmps52
    go_wp2_with (fail)
    refine HV.out.mono ?_
    rintro e w1 ⟨rfl, hb1⟩
    go_wp2_with (go_at_call 63; refine (isOneOf_c _ _ _).mono ?_; rintro e w2 ⟨rfl, rfl⟩)
    refine (HC _ (hr.later hb1)).out.mono ?_
    rintro e w3 ⟨A3, c3, rfl, ho3, hb3⟩
    go_wp2_with (fail)
    go_ret2
    exact ⟨A3, c3, rfl, own_base ho3 hb1.size, bl_call hb1 hb3⟩
end Go.Proofs.Ytbbhaongakmhpaa
