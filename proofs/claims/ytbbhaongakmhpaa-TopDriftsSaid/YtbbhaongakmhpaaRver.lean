/- Errors of readings with a rate and a time, Agree, Clash, CheckClash, Slowest: the specification's. -/
import Derived.Test.YtbbhaongakmhpaaRcl
namespace Go.Proofs.Ytbbhaongakmhpaa
open Go.RowKit

set_option maxHeartbeats 1000000 in
theorem rated_c (A : Option Addr) (l : List T3) (cap : Nat) (r : Int) (w : World) (hlen : l.length ≤ 1000) (hr : Rd w A (cellsT l)) :
    Calls Try.prog 57 #[.slice A l.length cap, .int .i64 r] w fun e w' => e = .returned (.int .i64 (ratE l r)) ∧ Below w.heap.size w w' := by
  have HV := Lib.hid (rvalidate_c A l cap w hlen hr)
  have HR := fun w => Lib.hid (within_c r 0 9 w)
  have HE : Hid (ratE l r = if validE l = 0 then (if inB r 0 9 = true then 0 else 1) else validE l) := rfl
  generalize ratE l r = res at HE
  generalize validE l = v at HV HE
  generalize inB r 0 9 = b at HR HE
  by_cases hv : v = 0
  · subst hv
    rcases b with _ | _
    all_goals
      go_enter Try.func57, Try.ntmps57
      go_wp2_with (first | (go_at_call 24; refine HV.out.mono ?_; rintro e w1 ⟨rfl, hb1⟩) | (go_at_call 62; refine (HR _).out.mono ?_; rintro e w2 ⟨rfl, rfl⟩))
      go_ret
      exact ⟨ret_i (by rw [HE.out]; rfl), hb1⟩
  · have hv' : (v != 0) = true := by simpa using hv
    have HN : Hid (res = v) := by show _ = _; rw [HE.out, if_neg hv]
    clear HE
    go_enter Try.func57, Try.ntmps57
    go_wp2_with (go_at_call 24; refine HV.out.mono ?_; rintro e w1 ⟨rfl, hb1⟩)
    go_ret
    exact ⟨ret_i HN.out, hb1⟩
set_option maxHeartbeats 1000000 in
theorem timed_c (A : Option Addr) (l : List T3) (cap : Nat) (r t : Int) (w : World) (hlen : l.length ≤ 1000) (hr : Rd w A (cellsT l)) :
    Calls Try.prog 72 #[.slice A l.length cap, .int .i64 r, .int .i64 t] w fun e w' => e = .returned (.int .i64 (timE l r t)) ∧ Below w.heap.size w w' := by
  have HV := Lib.hid (rated_c A l cap r w hlen hr)
  have HR := fun w => Lib.hid (within_c t 0 2000 w)
  have HE : Hid (timE l r t = if ratE l r = 0 then (if inB t 0 2000 = true then 0 else 1) else ratE l r) := rfl
  generalize timE l r t = res at HE
  generalize ratE l r = v at HV HE
  generalize inB t 0 2000 = b at HR HE
  by_cases hv : v = 0
  · subst hv
    rcases b with _ | _
    all_goals
      go_enter Try.func72, Try.ntmps72
      go_wp2_with (first | (go_at_call 57; refine HV.out.mono ?_; rintro e w1 ⟨rfl, hb1⟩) | (go_at_call 62; refine (HR _).out.mono ?_; rintro e w2 ⟨rfl, rfl⟩))
      go_ret
      exact ⟨ret_i (by rw [HE.out]; rfl), hb1⟩
  · have hv' : (v != 0) = true := by simpa using hv
    have HN : Hid (res = v) := by show _ = _; rw [HE.out, if_neg hv]
    clear HE
    go_enter Try.func72, Try.ntmps72
    go_wp2_with (go_at_call 57; refine HV.out.mono ?_; rintro e w1 ⟨rfl, hb1⟩)
    go_ret
    exact ⟨ret_i HN.out, hb1⟩
set_option maxHeartbeats 1000000 in
theorem ragree_c (A : Option Addr) (l : List T3) (cap : Nat) (r : Int) (w : World) (hlen : l.length ≤ 1000) (hf : Fit l r) (hr : Rd w A (cellsT l)) :
    Calls Try.prog 58 #[.slice A l.length cap, .int .i64 r] w fun e w' => e = .returned (.bool (agreeB l r)) ∧ Below w.heap.size w w' := by
  have HC := Lib.hid (pair_c A l cap r w hlen hf hr)
  have HB : Hid (agreeB l r = (pairO l r).isNone) := rfl
  generalize pairO l r = o at HC HB
  clear hf
  rcases o with _ | ⟨i, k⟩
  all_goals
    simp only [pairT] at HC
    go_enter Try.func58, Try.ntmps58
    go_wp2_with (go_at_call 60; refine HC.out.mono ?_; rintro e w1 ⟨rfl, hb1⟩)
    go_ret
    exact ⟨ret_b (by rw [HB.out]; rfl), hb1⟩
set_option maxHeartbeats 1000000 in
theorem rAgree_c (A : Option Addr) (l : List T3) (cap : Nat) (r : Int) (w : World) (hlen : l.length ≤ 1000) (hr : Rd w A (cellsT l)) :
    Calls Try.prog 20 #[.slice A l.length cap, .int .i64 r] w fun e w' => e = .returned (.tuple #[.bool (agrG l r), .int .i64 (ratE l r)]) ∧ Below w.heap.size w w' := by
  have HV := Lib.hid (rated_c A l cap r w hlen hr)
  by_cases hv : ratE l r = 0
  · obtain ⟨ho, h0, h9⟩ := ratE_ok.1 hv
    have HC := fun w' h => Lib.hid (ragree_c A l cap r w' hlen (ho.fit h0 h9) (hr.later (w' := w') h))
    rw [agrG_yes hv, hv]
    rw [hv] at HV
    clear hv ho h0 h9
    generalize agreeB l r = b at *
    go_enter Try.func20, Try.ntmps20
    go_wp2_with (first | (go_at_call 57; refine HV.out.mono ?_; rintro e w1 ⟨rfl, hb1⟩) | (go_at_call 58; refine (HC _ hb1).out.mono ?_; rintro e w2 ⟨rfl, hb2⟩))
    go_ret2
    exact ⟨rfl, bl_call hb1 hb2⟩
  · have hv' : (ratE l r != 0) = true := by simpa using hv
    rw [agrG_no hv]
    generalize ratE l r = v at *
    go_enter Try.func20, Try.ntmps20
    go_wp2_with (go_at_call 57; refine HV.out.mono ?_; rintro e w1 ⟨rfl, hb1⟩)
    go_ret2
    exact ⟨rfl, hb1⟩
set_option maxHeartbeats 1000000 in
theorem rClash_c (A : Option Addr) (l : List T3) (cap : Nat) (r : Int) (w : World) (hlen : l.length ≤ 1000) (hr : Rd w A (cellsT l)) :
    Calls Try.prog 22 #[.slice A l.length cap, .int .i64 r] w fun e w' => e = .returned (pair4 (ratE l r) (clsG l r)) ∧ Below w.heap.size w w' := by
  have HV := Lib.hid (rated_c A l cap r w hlen hr)
  by_cases hv : ratE l r = 0
  · obtain ⟨ho, h0, h9⟩ := ratE_ok.1 hv
    have HC := fun w' h => Lib.hid (pair_c A l cap r w' hlen (ho.fit h0 h9) (hr.later (w' := w') h))
    rw [clsG, if_pos hv, hv]
    rw [hv] at HV
    clear hv ho h0 h9
    generalize pairO l r = o at *
    rcases o with _ | ⟨i, k⟩
    all_goals
      simp only [pairT] at HC
      go_enter Try.func22, Try.ntmps22
      go_wp2_with (first | (go_at_call 57; refine HV.out.mono ?_; rintro e w1 ⟨rfl, hb1⟩) | (go_at_call 60; refine (HC _ hb1).out.mono ?_; rintro e w2 ⟨rfl, hb2⟩))
      refine bodyPost_ret (results_tmp4 rfl _ _ _) rfl ?_
      exact ⟨rfl, bl_call hb1 hb2⟩
  · have hv' : (ratE l r != 0) = true := by simpa using hv
    rw [clsG, if_neg hv]
    generalize ratE l r = v at *
    go_enter Try.func22, Try.ntmps22
    go_wp2_with (go_at_call 57; refine HV.out.mono ?_; rintro e w1 ⟨rfl, hb1⟩)
    refine bodyPost_ret (results_tmp4 rfl _ _ _) rfl ?_
    exact ⟨rfl, hb1⟩
set_option maxRecDepth 100000 in
set_option maxHeartbeats 1000000 in
theorem rSlowest_c (A : Option Addr) (l : List T3) (cap : Nat) (w : World) (hlen : l.length ≤ 1000) (hr : Rd w A (cellsT l)) :
    Calls Try.prog 28 #[.slice A l.length cap] w fun e w' => e = .returned (.tuple #[.int .i64 (sloG l).1, .bool (sloG l).2, .int .i64 (validE l)]) ∧ Below w.heap.size w w' := by
  have HV := Lib.hid (rvalidate_c A l cap w hlen hr)
  by_cases hv : validE l = 0
  · have ho := validE_ok.1 hv
    have HA := Lib.hid (fun (k : Nat) (hk : k < 10) w' h => ragree_c A l cap (k : Int) w' hlen (ho.fit (by omega) (by omega)) (hr.later (w' := w') h))
    rw [sloG, if_pos hv, hv]
    rw [hv] at HV
    have HE : Hid (slowG l = match slowO l with | some r => ((r : Int), true) | none => (0, false)) := rfl
    have HO : Hid (slowO l = rowF (fun r => agreeB l (r : Int)) 10 0) := rfl
    clear hv ho
    generalize slowG l = res at *
    generalize slowO l = o at *
    go_enter Try.func28, Try.ntmps28
    go_wp2_with (go_at_call 24; refine HV.out.mono ?_; rintro e w1 ⟨rfl, hb1⟩)
    go_loopg [6] 10 (fun gk iv wr => ∃ k : Nat, Hid (k + gk = 10) ∧ iv = .int .i64 (k : Int) ∧ Hid (o = rowF (fun r => agreeB l (r : Int)) gk k) ∧ Below w.heap.size w wr)
    case atStart => exact ⟨0, by simp [Hid], rfl, HO, hb1⟩
    case round =>
      obtain ⟨k, HK, rfl, HR, hb⟩ := hrel
      rcases gk with _ | gi
      · have hk : k = 10 := HK.out
        subst hk
        have hN : o = none := HR.out
        have HN : Hid (res = (0, false)) := by show _ = _; rw [HE.out, hN]
        clear HE HO HR HK hN
        go_wp2_with (fail)
        go_ret3
        exact ⟨by rw [HN.out]; rfl, hb⟩
      · have hlt : (k : Int) ≤ 9 := by have := HK.out; omega
        have hltn : k < 10 := by omega
        obtain ⟨H1, H2⟩ := slow_row HR.out
        replace H1 := Lib.hid H1
        replace H2 := Lib.hid H2
        have HC := Lib.hid (fun w' h => HA.out k hltn w' h)
        generalize agreeB l (k : Int) = b at HC H1 H2
        rcases b with _ | _
        · have HN := Lib.hid (H2.out rfl)
          clear H1 H2 HR
          go_wp2_with (go_at_call 58; refine (HC.out _ hb).mono ?_; rintro e w2 ⟨rfl, hb2⟩)
          go_roundg gi
          case rel => exact ⟨k + 1, by have := HK.out; show _ = _; omega, by go_num, HN, bl_call hb hb2⟩
          case measure => omega
        · have hN := H1.out rfl
          have HN : Hid (res = ((k : Int), true)) := by show _ = _; rw [HE.out, hN]
          clear H1 H2 HR HE HO hN
          go_wp2_with (go_at_call 58; refine (HC.out _ hb).mono ?_; rintro e w2 ⟨rfl, hb2⟩)
          go_ret3
          exact ⟨by rw [HN.out]; rfl, bl_call hb hb2⟩
  · have hv' : (validE l != 0) = true := by simpa using hv
    rw [sloG, if_neg hv]
    generalize validE l = v at *
    go_enter Try.func28, Try.ntmps28
    go_wp2_with (go_at_call 24; refine HV.out.mono ?_; rintro e w1 ⟨rfl, hb1⟩)
    go_ret3
    exact ⟨rfl, hb1⟩
end Go.Proofs.Ytbbhaongakmhpaa
