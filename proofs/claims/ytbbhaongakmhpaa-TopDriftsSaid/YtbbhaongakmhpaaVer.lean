/- Errors of readings with a rate and a time: package drift's. -/
import Derived.Test.YtbbhaongakmhpaaVal
namespace Go.Proofs.Ytbbhaongakmhpaa
open Go.RowKit

def ratE (l : List T3) (r : Int) : Int := if validE l = 0 then (if inB r 0 9 = true then 0 else 1) else validE l
def timE (l : List T3) (r t : Int) : Int := if ratE l r = 0 then (if inB t 0 2000 = true then 0 else 1) else ratE l r
theorem ratE_ok {l : List T3} {r : Int} : ratE l r = 0 ↔ Ok l ∧ 0 ≤ r ∧ r ≤ 9 := by
  unfold ratE
  by_cases h : validE l = 0
  · rw [if_pos h, ← validE_ok]
    by_cases h2 : inB r 0 9 = true
    · rw [if_pos h2]; exact ⟨fun _ => ⟨h, inB_z.1 h2⟩, fun _ => rfl⟩
    · rw [if_neg h2]; exact ⟨fun x => (by cases x), fun x => absurd (inB_z.2 x.2) h2⟩
  · rw [if_neg h, ← validE_ok]; exact ⟨fun x => absurd x h, fun x => absurd x.1 h⟩
theorem timE_ok {l : List T3} {r t : Int} : timE l r t = 0 ↔ (Ok l ∧ 0 ≤ r ∧ r ≤ 9) ∧ 0 ≤ t ∧ t ≤ 2000 := by
  unfold timE
  by_cases h : ratE l r = 0
  · rw [if_pos h, ← ratE_ok]
    by_cases h2 : inB t 0 2000 = true
    · rw [if_pos h2]; exact ⟨fun _ => ⟨h, inB_z.1 h2⟩, fun _ => rfl⟩
    · rw [if_neg h2]; exact ⟨fun x => (by cases x), fun x => absurd (inB_z.2 x.2) h2⟩
  · rw [if_neg h, ← ratE_ok]; exact ⟨fun x => absurd x h, fun x => absurd x.1 h⟩
set_option maxHeartbeats 1000000 in
theorem validateBy_c (A : Option Addr) (l : List T3) (cap : Nat) (r : Int) (w : World) (hlen : l.length ≤ 1000) (hr : Rd w A (cellsT l)) :
    Calls Try.prog 55 #[.slice A l.length cap, .int .i64 r] w fun e w' => e = .returned (.int .i64 (ratE l r)) ∧ Below w.heap.size w w' := by
  have HV := Lib.hid (validate_c A l cap w hlen hr)
  have HR := fun w => Lib.hid (isRate_c r w)
  have HE : Hid (ratE l r = if validE l = 0 then (if inB r 0 9 = true then 0 else 1) else validE l) := rfl
  generalize ratE l r = res at HE
  generalize validE l = v at HV HE
  generalize inB r 0 9 = b at HR HE
  by_cases hv : v = 0
  · subst hv
    rcases b with _ | _
    all_goals
      go_enter Try.func55, Try.ntmps55
      go_wp2_with (first | (go_at_call 23; refine HV.out.mono ?_; rintro e w1 ⟨rfl, hb1⟩) | (go_at_call 64; refine (HR _).out.mono ?_; rintro e w2 ⟨rfl, rfl⟩))
      go_ret
      exact ⟨ret_i (by rw [HE.out]; rfl), hb1⟩
  · have hv' : (v != 0) = true := by simpa using hv
    have HN : Hid (res = v) := by show _ = _; rw [HE.out, if_neg hv]
    clear HE
    go_enter Try.func55, Try.ntmps55
    go_wp2_with (go_at_call 23; refine HV.out.mono ?_; rintro e w1 ⟨rfl, hb1⟩)
    go_ret
    exact ⟨ret_i HN.out, hb1⟩
set_option maxHeartbeats 1000000 in
theorem validateAt_c (A : Option Addr) (l : List T3) (cap : Nat) (r t : Int) (w : World) (hlen : l.length ≤ 1000) (hr : Rd w A (cellsT l)) :
    Calls Try.prog 70 #[.slice A l.length cap, .int .i64 r, .int .i64 t] w fun e w' => e = .returned (.int .i64 (timE l r t)) ∧ Below w.heap.size w w' := by
  have HV := Lib.hid (validateBy_c A l cap r w hlen hr)
  have HE : Hid (timE l r t = if ratE l r = 0 then (if inB t 0 2000 = true then 0 else 1) else ratE l r) := rfl
  generalize timE l r t = res at HE
  generalize ratE l r = v at HV HE
  by_cases hv : v = 0
  · subst hv
    by_cases h1 : t < 0
    · have HN : Hid (res = 1) := by show _ = _; rw [HE.out, if_pos rfl, if_neg]; rw [inB_z]; omega
      clear HE
      go_enter Try.func70, Try.ntmps70
      go_wp2_with (go_at_call 55; refine HV.out.mono ?_; rintro e w1 ⟨rfl, hb1⟩)
      go_ret
      exact ⟨ret_i HN.out, hb1⟩
    · by_cases h2 : 2000 < t
      · have HN : Hid (res = 1) := by show _ = _; rw [HE.out, if_pos rfl, if_neg]; rw [inB_z]; omega
        clear HE
        go_enter Try.func70, Try.ntmps70
        go_wp2_with (go_at_call 55; refine HV.out.mono ?_; rintro e w1 ⟨rfl, hb1⟩)
        go_ret
        exact ⟨ret_i HN.out, hb1⟩
      · have HN : Hid (res = 0) := by show _ = _; rw [HE.out, if_pos rfl, if_pos]; rw [inB_z]; omega
        clear HE
        go_enter Try.func70, Try.ntmps70
        go_wp2_with (go_at_call 55; refine HV.out.mono ?_; rintro e w1 ⟨rfl, hb1⟩)
        go_ret
        exact ⟨ret_i HN.out, hb1⟩
  · have hv' : (v != 0) = true := by simpa using hv
    have HN : Hid (res = v) := by show _ = _; rw [HE.out, if_neg hv]
    clear HE
    go_enter Try.func70, Try.ntmps70
    go_wp2_with (go_at_call 55; refine HV.out.mono ?_; rintro e w1 ⟨rfl, hb1⟩)
    go_ret
    exact ⟨ret_i HN.out, hb1⟩
end Go.Proofs.Ytbbhaongakmhpaa
