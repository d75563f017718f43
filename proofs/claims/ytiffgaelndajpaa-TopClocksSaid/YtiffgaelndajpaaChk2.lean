/- Which tables keep the jobs: package clock's CheckTable. -/
import Derived.Test.YtiffgaelndajpaaChk
namespace Go.Proofs.Ytiffgaelndajpaa
open Go.RowKit

theorem numsB_take {n : Nat} {tb : List Int} {k : Nat} (hk : k < tb.length) : numsB n (tb.take (k + 1)) = (numsB n (tb.take k) && numB n (tb.getD k 0)) := by
  rw [numsB, List.take_succ_eq_append_getElem hk, List.all_append]
  simp [hk, numsB]
theorem numsB_no {n : Nat} {tb : List Int} {k : Nat} (hk : k < tb.length) (h : numB n (tb.getD k 0) = false) : numsB n tb = false := by
  rw [numsB, List.all_eq_false]
  exact ⟨tb[k], List.getElem_mem hk, by simp [hk] at h; simp [h]⟩
theorem timesTo_succ (l : List T3) (tb : List Int) (k : Nat) : timesTo l tb (k + 1) = (timesTo l tb k && timeB l k (tb.getD k 0)) := by
  simp [timesTo, List.range_succ, List.all_append]
theorem timesTo_no {l : List T3} {tb : List Int} {k n : Nat} (hk : k < n) (h : timeB l k (tb.getD k 0) = false) : timesTo l tb n = false := by
  rw [← Bool.not_eq_true, timesTo_z]
  intro h2; rw [h2 k hk] at h; cases h
theorem tabE_valid {l : List T3} {tb : List Int} (h : validE l ≠ 0) : tabE l tb = validE l := by rw [tabE, if_neg h]
theorem tabE_long {l : List T3} {tb : List Int} (h : validE l = 0) (h2 : 60 < tb.length) : tabE l tb = 3 := by rw [tabE, if_pos h, if_pos h2]
theorem tabE_num {l : List T3} {tb : List Int} (h : validE l = 0) (h2 : ¬ 60 < tb.length) (h3 : numsB l.length tb = false) : tabE l tb = 1 := by rw [tabE, if_pos h, if_neg h2, h3]; rfl
theorem tabE_time {l : List T3} {tb : List Int} (h : validE l = 0) (h2 : ¬ 60 < tb.length) (h3 : numsB l.length tb = true) (h4 : timesTo l tb tb.length = false) : tabE l tb = 8 := by rw [tabE, if_pos h, if_neg h2, h3, h4]; rfl
theorem tabE_end {l : List T3} {tb : List Int} (h : validE l = 0) (h2 : ¬ 60 < tb.length) (h3 : numsB l.length tb = true) (h4 : timesTo l tb tb.length = true) : tabE l tb = if enoughB l tb then 0 else 7 := by rw [tabE, if_pos h, if_neg h2, h3, h4]; rfl

set_option maxRecDepth 100000 in
set_option maxHeartbeats 4000000 in
theorem CheckTable_c (A : Option Addr) (l : List T3) (c : Nat) (B : Option Addr) (tb : List Int) (cb : Nat) (w : World) (hlen : l.length ≤ 1000) (hlb : tb.length ≤ 100000) (hr : Rd w A (cellsT l)) (hrb : Rd w B (ints tb)) :
    Calls Try.prog 20 #[.slice A l.length c, .slice B tb.length cb] w fun e w' => e = .returned (.int .i64 (tabE l tb)) ∧ Below w.heap.size w w' := by
  have HV := Lib.hid (validate_c A l c w hlen hr)
  by_cases hv : validE l = 0
  · rw [hv] at HV
    have HVE := Lib.hid hv
    have hl := validE_ok.1 hv
    have h8 := hl.len
    clear hv
    by_cases h60 : 60 < tb.length
    · have h60' : (60 : Int) < (tb.length : Int) := by omega
      have HE := Lib.hid (tabE_long HVE.out h60)
      go_enter Try.func20, Try.ntmps20
      go_wp2_with (fail)
      refine HV.out.mono ?_
      rintro e w1 ⟨rfl, hb1⟩
      go_wp2_with (fail)
      go_ret
      exact ⟨ret_i HE.out, hb1⟩
    · have h60' : ¬ (60 : Int) < (tb.length : Int) := by omega
      have hb60 : tb.length ≤ 60 := by omega
      have H60 := Lib.hid h60
      clear h60
      go_enter Try.func20, Try.ntmps20
      go_wp2_with (fail)
      refine HV.out.mono ?_
      rintro e w1 ⟨rfl, hb1⟩
      go_wp2_with (fail)
      go_loopg [20] tb.length (fun gk iv wr => ∃ k : Nat, Hid (k + gk = tb.length) ∧ iv = .int .i64 (k : Int) ∧ Hid (numsB l.length (tb.take k) = true) ∧ wr = w1)
      case atStart => exact ⟨0, by simp [Hid], rfl, by simp [Hid, numsB], rfl⟩
      case round =>
        obtain ⟨k, HK, rfl, HNT, rfl⟩ := hrel
        rcases gk with _ | gi
        · obtain rfl : k = tb.length := HK.out
          have HNB : Hid (numsB l.length tb = true) := by have := HNT.out; rwa [List.take_length] at this
          have HIE := fun w h h' => Lib.hid (isEnough_c A l c B tb cb w h8 (by omega) HNB.out h h')
          go_wp2_with (fail)
          go_loopg [36] tb.length (fun gk iv wr' => ∃ k : Nat, Hid (k + gk = tb.length) ∧ iv = .int .i64 (k : Int) ∧ Hid (timesTo l tb k = true) ∧ wr' = wr)
          case atStart => exact ⟨0, by simp [Hid], rfl, rfl, rfl⟩
          case round =>
            obtain ⟨k, HK, rfl, HTT, rfl⟩ := hrel
            rcases gk with _ | gi
            · obtain rfl : k = tb.length := HK.out
              have HE := Lib.hid (tabE_end HVE.out H60.out HNB.out HTT.out)
              generalize enoughB l tb = v at *
              go_wp2_with (fail)
              refine (HIE _ (hr.later hb1) (hrb.later hb1)).out.mono ?_
              rintro e w2 ⟨rfl, hb2⟩
              cases v with
              | true =>
                go_wp2_with (fail)
                go_ret
                exact ⟨ret_i (by rw [HE.out]; rfl), bl_call hb1 hb2⟩
              | false =>
                go_wp2_with (fail)
                go_ret
                exact ⟨ret_i (by rw [HE.out]; rfl), bl_call hb1 hb2⟩
            · have hkN : k < tb.length := by have := HK.out; omega
              have hkN' : (k : Int) < (tb.length : Int) := by omega
              obtain ⟨b, o, rfl, _, hcc⟩ := (hrb.later hb1).at_ (k := k) (by rw [ints_length]; exact hkN)
              have hck := hcc k _ (ints_get hkN)
              have hf := numsB_get HNB.out hkN
              have HS := Lib.hid (timesTo_succ l tb k)
              rw [HTT.out, Bool.true_and] at HS
              have HNO := Lib.hid (@timesTo_no l tb k tb.length hkN)
              clear hcc HIE
              generalize tb.getD k 0 = f at *
              obtain ⟨hf1, hf2⟩ := hf
              by_cases hfm : f = -1
              · subst hfm
                have HS2 : Hid (timesTo l tb (k + 1) = true) := by show _ = _; rw [HS.out]; rfl
                clear HNO
                go_wp2_with (fail)
                go_roundg gi
                case rel => exact ⟨k + 1, by have := HK.out; show _ = _; omega, by go_num, HS2.out, rfl⟩
                case measure => omega
              · obtain ⟨i, rfl⟩ := Int.eq_ofNat_of_zero_le (show 0 ≤ f by omega)
                have hil : i < l.length := by omega
                have hil' : (i : Int) < (l.length : Int) := by omega
                have hne : ((i : Int) != -1) = true := by rw [bne_iff_ne]; omega
                obtain ⟨b2, o2, rfl, _, c0, c1, c2⟩ := (hr.later hb1).tri hil
                have HT : Hid (timeB l k (i : Int) = (decide ((l.getD i t0).1 ≤ (k : Int)) && decide ((k : Int) < (l.getD i t0).2.1))) := by
                  show _ = _
                  rw [timeB, decide_eq_false (show ¬ (i : Int) < 0 by omega), Int.toNat_natCast]; rfl
                rw [HT.out] at HS HNO
                generalize l.getD i t0 = x at *
                obtain ⟨x0, x1, x2⟩ := x
                simp only [] at c0 c1 HS HNO
                clear hfm hf1 hf2 HT
                by_cases h1 : (k : Int) < x0
                · have HNF := Lib.hid (tabE_time HVE.out H60.out HNB.out (HNO.out (by rw [decide_eq_false (show ¬ x0 ≤ (k : Int) by omega)]; rfl)))
                  clear HS HNO
                  go_wp2_with (fail)
                  go_ret
                  exact ⟨ret_i HNF.out, hb1⟩
                · by_cases h2 : x1 ≤ (k : Int)
                  · have HNF := Lib.hid (tabE_time HVE.out H60.out HNB.out (HNO.out (by rw [decide_eq_false (show ¬ (k : Int) < x1 by omega), Bool.and_false])))
                    clear HS HNO
                    go_wp2_with (fail)
                    go_ret
                    exact ⟨ret_i HNF.out, hb1⟩
                  · have HS2 : Hid (timesTo l tb (k + 1) = true) := by show _ = _; rw [HS.out, decide_eq_true (show x0 ≤ (k : Int) by omega), decide_eq_true (show (k : Int) < x1 by omega)]; rfl
                    clear HS HNO
                    go_wp2_with (fail)
                    go_roundg gi
                    case rel => exact ⟨k + 1, by have := HK.out; show _ = _; omega, by go_num, HS2.out, rfl⟩
                    case measure => omega
        · have hkN : k < tb.length := by have := HK.out; omega
          have hkN' : (k : Int) < (tb.length : Int) := by omega
          obtain ⟨b, o, rfl, _, hcc⟩ := (hrb.later hb1).at_ (k := k) (by rw [ints_length]; exact hkN)
          have hck := hcc k _ (ints_get hkN)
          have HS := Lib.hid (@numsB_take l.length tb k hkN)
          rw [HNT.out, Bool.true_and] at HS
          have HNO := Lib.hid (@numsB_no l.length tb k hkN)
          have HO := fun w => Lib.hid (isOneOf_c (tb.getD k 0) l.length w)
          have HNU : Hid (numB l.length (tb.getD k 0) = (tb.getD k 0 == -1 || oneB (tb.getD k 0) l.length)) := rfl
          rw [HNU.out] at HS HNO
          clear hcc HNU
          generalize tb.getD k 0 = f at *
          by_cases hfm : f = -1
          · subst hfm
            have HS2 : Hid (numsB l.length (tb.take (k + 1)) = true) := by show _ = _; rw [HS.out]; rfl
            clear HNO HS
            go_wp2_with (fail)
            go_roundg gi
            case rel => exact ⟨k + 1, by have := HK.out; show _ = _; omega, by go_num, HS2.out, rfl⟩
            case measure => omega
          · have hne : (f != -1) = true := by rw [bne_iff_ne]; exact hfm
            have hne2 : (f == -1) = false := by rw [beq_eq_false_iff_ne]; exact hfm
            rw [hne2, Bool.false_or] at HS HNO
            generalize oneB f l.length = v at *
            clear hfm
            cases v with
            | true =>
              have HS2 := Lib.hid HS.out
              clear HNO HS
              go_wp2_with (go_at_call 56; refine (HO _).out.mono ?_; rintro e w3 ⟨rfl, rfl⟩)
              go_roundg gi
              case rel => exact ⟨k + 1, by have := HK.out; show _ = _; omega, by go_num, HS2.out, rfl⟩
              case measure => omega
            | false =>
              have HNF := Lib.hid (tabE_num HVE.out H60.out (HNO.out rfl))
              clear HNO HS
              go_wp2_with (go_at_call 56; refine (HO _).out.mono ?_; rintro e w3 ⟨rfl, rfl⟩)
              go_ret
              exact ⟨ret_i HNF.out, hb1⟩
  · have HB := tabE_valid (tb := tb) hv
    have hv' : (validE l != 0) = true := by simpa using hv
    rw [HB]
    clear HB
    generalize validE l = ev at *
    go_enter Try.func20, Try.ntmps20
    go_wp2_with (fail)
    refine HV.out.mono ?_
    rintro e w1 ⟨rfl, hb1⟩
    go_wp2_with (fail)
    go_ret
    exact ⟨rfl, hb1⟩
end Go.Proofs.Ytiffgaelndajpaa
