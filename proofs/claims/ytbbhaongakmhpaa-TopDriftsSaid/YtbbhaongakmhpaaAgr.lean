/- Whether readings agree, which ones clash, and the smallest rate: package drift's. -/
import Derived.Test.YtbbhaongakmhpaaClp
import Derived.Test.YtbbhaongakmhpaaVer
import Derived.Test.YtbbhaongakmhpaaDrfS
namespace Go.Proofs.Ytbbhaongakmhpaa
open Go.RowKit

theorem results_tmp4 {fn : Func} {t u v x : Tmp} (h : fn.results = #[.tmp t, .tmp u, .tmp v, .tmp x]) (tmps : Array Value) (P : Program) (w : World) :
    (results fn tmps).run P w = .ok (.tuple #[tmps.getD t undef, tmps.getD u undef, tmps.getD v undef, tmps.getD x undef]) w := by
  simp [results, h]
set_option maxHeartbeats 1000000 in
theorem agree_c (A : Option Addr) (l : List T3) (cap : Nat) (r : Int) (w : World) (hlen : l.length ≤ 1000) (hf : Fit l r) (hr : Rd w A (cellsT l)) :
    Calls Try.prog 56 #[.slice A l.length cap, .int .i64 r] w fun e w' => e = .returned (.bool (agreeB l r)) ∧ Below w.heap.size w w' := by
  have HC := Lib.hid (firstClash_c A l cap r w hlen hf hr)
  have HB : Hid (agreeB l r = (pairO l r).isNone) := rfl
  generalize pairO l r = o at HC HB
  clear hf
  rcases o with _ | ⟨i, k⟩
  all_goals
    simp only [pairT] at HC
    go_enter Try.func56, Try.ntmps56
    go_wp2_with (go_at_call 59; refine HC.out.mono ?_; rintro e w1 ⟨rfl, hb1⟩)
    go_ret
    exact ⟨ret_b (by rw [HB.out]; rfl), hb1⟩
def agrG (l : List T3) (r : Int) : Bool := decide (ratE l r = 0) && agreeB l r
theorem agrG_yes {l : List T3} {r : Int} (h : ratE l r = 0) : agrG l r = agreeB l r := by simp [agrG, h]
theorem agrG_no {l : List T3} {r : Int} (h : ratE l r ≠ 0) : agrG l r = false := by simp [agrG, h]
set_option maxHeartbeats 1000000 in
theorem Agree_c (A : Option Addr) (l : List T3) (cap : Nat) (r : Int) (w : World) (hlen : l.length ≤ 1000) (hr : Rd w A (cellsT l)) :
    Calls Try.prog 19 #[.slice A l.length cap, .int .i64 r] w fun e w' => e = .returned (.tuple #[.bool (agrG l r), .int .i64 (ratE l r)]) ∧ Below w.heap.size w w' := by
  have HV := Lib.hid (validateBy_c A l cap r w hlen hr)
  by_cases hv : ratE l r = 0
  · obtain ⟨ho, h0, h9⟩ := ratE_ok.1 hv
    have HC := fun w' h => Lib.hid (agree_c A l cap r w' hlen (ho.fit h0 h9) (hr.later (w' := w') h))
    rw [agrG_yes hv, hv]
    rw [hv] at HV
    clear hv ho h0 h9
    generalize agreeB l r = b at *
    go_enter Try.func19, Try.ntmps19
    go_wp2_with (first | (go_at_call 55; refine HV.out.mono ?_; rintro e w1 ⟨rfl, hb1⟩) | (go_at_call 56; refine (HC _ hb1).out.mono ?_; rintro e w2 ⟨rfl, hb2⟩))
    go_ret2
    exact ⟨rfl, bl_call hb1 hb2⟩
  · have hv' : (ratE l r != 0) = true := by simpa using hv
    rw [agrG_no hv]
    generalize ratE l r = v at *
    go_enter Try.func19, Try.ntmps19
    go_wp2_with (go_at_call 55; refine HV.out.mono ?_; rintro e w1 ⟨rfl, hb1⟩)
    go_ret2
    exact ⟨rfl, hb1⟩
def pair4 (e : Int) : Option (Nat × Nat) → Value
  | some (i, k) => .tuple #[.int .i64 (i : Int), .int .i64 (k : Int), .bool true, .int .i64 e]
  | none => .tuple #[.int .i64 0, .int .i64 0, .bool false, .int .i64 e]
def clsG (l : List T3) (r : Int) : Option (Nat × Nat) := if ratE l r = 0 then pairO l r else none
set_option maxHeartbeats 1000000 in
theorem Clash_c (A : Option Addr) (l : List T3) (cap : Nat) (r : Int) (w : World) (hlen : l.length ≤ 1000) (hr : Rd w A (cellsT l)) :
    Calls Try.prog 21 #[.slice A l.length cap, .int .i64 r] w fun e w' => e = .returned (pair4 (ratE l r) (clsG l r)) ∧ Below w.heap.size w w' := by
  have HV := Lib.hid (validateBy_c A l cap r w hlen hr)
  by_cases hv : ratE l r = 0
  · obtain ⟨ho, h0, h9⟩ := ratE_ok.1 hv
    have HC := fun w' h => Lib.hid (firstClash_c A l cap r w' hlen (ho.fit h0 h9) (hr.later (w' := w') h))
    rw [clsG, if_pos hv, hv]
    rw [hv] at HV
    clear hv ho h0 h9
    generalize pairO l r = o at *
    rcases o with _ | ⟨i, k⟩
    all_goals
      simp only [pairT] at HC
      go_enter Try.func21, Try.ntmps21
      go_wp2_with (first | (go_at_call 55; refine HV.out.mono ?_; rintro e w1 ⟨rfl, hb1⟩) | (go_at_call 59; refine (HC _ hb1).out.mono ?_; rintro e w2 ⟨rfl, hb2⟩))
      refine bodyPost_ret (results_tmp4 rfl _ _ _) rfl ?_
      exact ⟨rfl, bl_call hb1 hb2⟩
  · have hv' : (ratE l r != 0) = true := by simpa using hv
    rw [clsG, if_neg hv]
    generalize ratE l r = v at *
    go_enter Try.func21, Try.ntmps21
    go_wp2_with (go_at_call 55; refine HV.out.mono ?_; rintro e w1 ⟨rfl, hb1⟩)
    refine bodyPost_ret (results_tmp4 rfl _ _ _) rfl ?_
    exact ⟨rfl, hb1⟩
def sloG (l : List T3) : Int × Bool := if validE l = 0 then slowG l else (0, false)
theorem slow_row {f : Nat → Bool} {g k : Nat} {x : Option Nat} (h : x = rowF f (g + 1) k) : (f k = true → x = some k) ∧ (f k = false → x = rowF f g (k + 1)) := row_go (F := id) h
set_option maxRecDepth 100000 in
set_option maxHeartbeats 1000000 in
theorem Slowest_c (A : Option Addr) (l : List T3) (cap : Nat) (w : World) (hlen : l.length ≤ 1000) (hr : Rd w A (cellsT l)) :
    Calls Try.prog 27 #[.slice A l.length cap] w fun e w' => e = .returned (.tuple #[.int .i64 (sloG l).1, .bool (sloG l).2, .int .i64 (validE l)]) ∧ Below w.heap.size w w' := by
  have HV := Lib.hid (validate_c A l cap w hlen hr)
  by_cases hv : validE l = 0
  · have ho := validE_ok.1 hv
    have HA := Lib.hid (fun (k : Nat) (hk : k < 10) w' h => agree_c A l cap (k : Int) w' hlen (ho.fit (by omega) (by omega)) (hr.later (w' := w') h))
    rw [sloG, if_pos hv, hv]
    rw [hv] at HV
    have HE : Hid (slowG l = match slowO l with | some r => ((r : Int), true) | none => (0, false)) := rfl
    have HO : Hid (slowO l = rowF (fun r => agreeB l (r : Int)) 10 0) := rfl
    clear hv ho
    generalize slowG l = res at *
    generalize slowO l = o at *
    go_enter Try.func27, Try.ntmps27
    go_wp2_with (go_at_call 23; refine HV.out.mono ?_; rintro e w1 ⟨rfl, hb1⟩)
    go_loopg [12] 10 (fun gk iv wr => ∃ k : Nat, Hid (k + gk = 10) ∧ iv = .int .i64 (k : Int) ∧ Hid (o = rowF (fun r => agreeB l (r : Int)) gk k) ∧ Below w.heap.size w wr)
    case atStart => exact ⟨0, by simp [Hid], rfl, HO, hb1⟩
    case round =>
      obtain ⟨k, HK, rfl, HR, hb⟩ := hrel
      rcases gk with _ | gi
      · have hk : k = 10 := HK.out
        subst hk
        have hN : o = none := HR.out
        have HN : Hid (res = (0, false)) := by show _ = _; rw [HE.out, hN]
        clear HE HO HR HK hN
        go_wp2_with (fail)
        go_ret3
        exact ⟨by rw [HN.out]; rfl, hb⟩
      · have hlt : (k : Int) < 10 := by have := HK.out; omega
        have hltn : k < 10 := by omega
        obtain ⟨H1, H2⟩ := slow_row HR.out
        replace H1 := Lib.hid H1
        replace H2 := Lib.hid H2
        have HC := Lib.hid (fun w' h => HA.out k hltn w' h)
        generalize agreeB l (k : Int) = b at HC H1 H2
        rcases b with _ | _
        · have HN := Lib.hid (H2.out rfl)
          clear H1 H2 HR
          go_wp2_with (go_at_call 56; refine (HC.out _ hb).mono ?_; rintro e w2 ⟨rfl, hb2⟩)
          go_roundg gi
          case rel => exact ⟨k + 1, by have := HK.out; show _ = _; omega, by go_num, HN, bl_call hb hb2⟩
          case measure => omega
        · have hN := H1.out rfl
          have HN : Hid (res = ((k : Int), true)) := by show _ = _; rw [HE.out, hN]
          clear H1 H2 HR HE HO hN
          go_wp2_with (go_at_call 56; refine (HC.out _ hb).mono ?_; rintro e w2 ⟨rfl, hb2⟩)
          go_ret3
          exact ⟨by rw [HN.out]; rfl, bl_call hb hb2⟩
  · have hv' : (validE l != 0) = true := by simpa using hv
    rw [sloG, if_neg hv]
    generalize validE l = v at *
    go_enter Try.func27, Try.ntmps27
    go_wp2_with (go_at_call 23; refine HV.out.mono ?_; rintro e w1 ⟨rfl, hb1⟩)
    go_ret3
    exact ⟨rfl, hb1⟩
end Go.Proofs.Ytbbhaongakmhpaa
