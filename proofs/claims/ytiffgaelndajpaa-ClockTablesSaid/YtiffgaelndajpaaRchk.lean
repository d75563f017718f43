/- Which tables keep the jobs: the specification's CheckTable. -/
import Derived.Test.YtiffgaelndajpaaChk2
namespace Go.Proofs.Ytiffgaelndajpaa
open Go.RowKit

set_option maxRecDepth 100000 in
set_option maxHeartbeats 8000000 in
theorem rCheckTable_c (A : Option Addr) (l : List T3) (c : Nat) (B : Option Addr) (tb : List Int) (cb : Nat) (w : World) (hlen : l.length ≤ 1000) (hlb : tb.length ≤ 100000) (hr : Rd w A (cellsT l)) (hrb : Rd w B (ints tb)) :
    Calls Try.prog 21 #[.slice A l.length c, .slice B tb.length cb] w fun e w' => e = .returned (.int .i64 (tabE l tb)) ∧ Below w.heap.size w w' := by
  have HV := Lib.hid (rvalidate_c A l c w hlen hr)
  by_cases hv : validE l = 0
  · rw [hv] at HV
    have HVE := Lib.hid hv
    have hl := validE_ok.1 hv
    have h8 := hl.len
    clear hv
    by_cases h60 : 60 < tb.length
    · have h60' : (60 : Int) < (tb.length : Int) := by omega
      have HE := Lib.hid (tabE_long HVE.out h60)
      go_enter Try.func21, Try.ntmps21
      go_wp2_with (fail)
      refine HV.out.mono ?_
      rintro e w1 ⟨rfl, hb1⟩
      go_wp2_with (fail)
      go_ret
      exact ⟨ret_i HE.out, hb1⟩
    · have h60' : ¬ (60 : Int) < (tb.length : Int) := by omega
      have hb60 : tb.length ≤ 60 := by omega
      have H60 := Lib.hid h60
      clear h60
      go_enter Try.func21, Try.ntmps21
      go_wp2_with (fail)
      refine HV.out.mono ?_
      rintro e w1 ⟨rfl, hb1⟩
      go_wp2_with (fail)
      go_loopg [6] tb.length (fun gk iv wr => ∃ k : Nat, Hid (k + gk = tb.length) ∧ iv = .int .i64 (k : Int) ∧ Hid (numsB l.length (tb.take k) = true) ∧ wr = w1)
      case atStart => exact ⟨0, by simp [Hid], rfl, by simp [Hid, numsB], rfl⟩
      case round =>
        obtain ⟨k, HK, rfl, HNT, rfl⟩ := hrel
        rcases gk with _ | gi
        · obtain rfl : k = tb.length := HK.out
          have HNB : Hid (numsB l.length tb = true) := by have := HNT.out; rwa [List.take_length] at this
          obtain ⟨cs, hmk, hcs⟩ := make_ints l.length (by omega) wr
          have hR0 : Row (wr.alloc (.cells cs 3)) wr.heap.size (cntsTo l.length tb 0) := by rw [hcs]; exact Bx.new wr _ _
          have hbl : Below w.heap.size w (wr.alloc (.cells cs 3)) := bl_alloc hb1 _
          have hg0 := hb1.size
          have HCS := Lib.hid (cntsTo_succ l.length tb)
          have HCL := Lib.hid (cntsTo_len l.length tb)
          have HCR := Lib.hid (fun k (h : k < l.length) t => cntsTo_range l.length tb h t)
          clear hcs
          go_wp2_with (fail)
          generalize wr.alloc (.cells cs 3) = w0 at *
          clear hmk
          generalize wr.heap.size = g0 at *
          go_loopg [8] tb.length (fun gk iv wr' => ∃ k : Nat, Hid (k + gk = tb.length) ∧ iv = .int .i64 (k : Int) ∧ Hid (timesTo l tb k = true) ∧ Row wr' g0 (cntsTo l.length tb k) ∧ Below w.heap.size w wr')
          case atStart => exact ⟨0, by simp [Hid], rfl, rfl, hR0, hbl⟩
          case round =>
            obtain ⟨k, HK, rfl, HTT, hR, hb⟩ := hrel
            clear hR0 hbl
            rcases gk with _ | gi
            · obtain rfl : k = tb.length := HK.out
              have HE := Lib.hid (tabE_end HVE.out H60.out HNB.out HTT.out)
              have HEB : Hid (enoughB l tb = enoughTo l (cntsTo l.length tb tb.length) l.length) := rfl
              have HCLe := Lib.hid (HCL.out tb.length)
              generalize cntsTo l.length tb tb.length = C at *
              go_wp2_with (fail)
              go_loopg [10] l.length (fun gk iv wr => ∃ k : Nat, Hid (k + gk = l.length) ∧ iv = .int .i64 (k : Int) ∧ Hid (enoughTo l C k = true) ∧ Row wr g0 C ∧ Below w.heap.size w wr)
              case atStart => exact ⟨0, by simp [Hid], rfl, rfl, hR, hb⟩
              case round =>
                clear hR hb
                obtain ⟨k, HK, rfl, HT, hR, hb⟩ := hrel
                rcases gk with _ | gi
                · obtain rfl : k = l.length := HK.out
                  have HF : Hid (tabE l tb = 0) := by show _ = _; rw [HE.out, HEB.out, HT.out]; rfl
                  go_wp2_with (fail)
                  go_ret
                  exact ⟨ret_i HF.out, hb⟩
                · have hkl : k < l.length := by have := HK.out; omega
                  have hkl' : (k : Int) < (l.length : Int) := by omega
                  obtain ⟨b, o, rfl, hbl, c0, c1, c2⟩ := (hr.later hb).tri hkl
                  have HSU := Lib.hid (enoughTo_succ l C k)
                  rw [HT.out, Bool.true_and] at HSU
                  have HNO := Lib.hid (@enoughTo_no l C k l.length hkl)
                  have y0 := hR.get (k := k) (by rw [HCLe.out]; exact hkl)
                  generalize l.getD k t0 = x at *
                  obtain ⟨x0, x1, x2⟩ := x
                  simp only [] at c0 c1 c2 HSU HNO
                  generalize C.getD k 0 = v at *
                  by_cases he : v = x2
                  · subst he
                    have HT2 : Hid (enoughTo l C (k + 1) = true) := by show _ = _; rw [HSU.out]; simp
                    clear HSU HNO
                    go_wp2_with (fail)
                    go_quiet (fail)
                    go_wp2_with (fail)
                    go_roundg gi
                    case rel => exact ⟨k + 1, by have := HK.out; show _ = _; omega, by go_num, HT2.out, hR.call (below_drewN (Below.refl _ _) _), below_drewN hb _⟩
                    case measure => omega
                  · have hne : (v != x2) = true := by rw [bne_iff_ne]; exact he
                    have HNF := HNO.out he
                    have HF : Hid (tabE l tb = 7) := by show _ = _; rw [HE.out, HEB.out, HNF]; rfl
                    clear HSU HNO he HNF
                    go_wp2_with (fail)
                    go_quiet (fail)
                    go_wp2_with (fail)
                    go_ret
                    exact ⟨ret_i HF.out, below_drewN hb _⟩
            · have hkN : k < tb.length := by have := HK.out; omega
              have hkN' : (k : Int) < (tb.length : Int) := by omega
              obtain ⟨b, o, rfl, _, hcc⟩ := (hrb.later hb).at_ (k := k) (by rw [ints_length]; exact hkN)
              have hck := hcc k _ (ints_get hkN)
              have hf := numsB_get HNB.out hkN
              have HS := Lib.hid (timesTo_succ l tb k)
              rw [HTT.out, Bool.true_and] at HS
              have HNO := Lib.hid (@timesTo_no l tb k tb.length hkN)
              have HSK := Lib.hid (HCS.out k)
              have HLK := Lib.hid (HCL.out k)
              have HCK := Lib.hid (fun i h => HCR.out i h k)
              clear hcc
              generalize tb.getD k 0 = f at *
              obtain ⟨hf1, hf2⟩ := hf
              by_cases hfm : f = -1
              · subst hfm
                have HS2 : Hid (timesTo l tb (k + 1) = true) := by show _ = _; rw [HS.out]; rfl
                have HS3 : Hid (cntsTo l.length tb (k + 1) = cntsTo l.length tb k) := by show _ = _; rw [HSK.out]; rfl
                clear HNO
                go_wp2_with (fail)
                go_roundg gi
                case rel => exact ⟨k + 1, by have := HK.out; show _ = _; omega, by go_num, HS2.out, by rw [HS3.out]; exact hR, hb⟩
                case measure => omega
              · obtain ⟨i, rfl⟩ := Int.eq_ofNat_of_zero_le (show 0 ≤ f by omega)
                have hil : i < l.length := by omega
                have hil' : (i : Int) < (l.length : Int) := by omega
                obtain ⟨b2, o2, rfl, _, c0, c1, c2⟩ := (hr.later hb).tri hil
                have HT : Hid (timeB l k (i : Int) = (decide ((l.getD i t0).1 ≤ (k : Int)) && decide ((k : Int) < (l.getD i t0).2.1))) := by
                  show _ = _
                  rw [timeB, decide_eq_false (show ¬ (i : Int) < 0 by omega), Int.toNat_natCast]; rfl
                rw [HT.out] at HS HNO
                have HS2 : Hid (cntsTo l.length tb (k + 1) = (cntsTo l.length tb k).set i ((cntsTo l.length tb k).getD i 0 + 1)) := by show _ = _; rw [HSK.out, cntStep, if_neg (by omega), Int.toNat_natCast]
                have y0 := hR.get (k := i) (by rw [HLK.out]; exact hil)
                have y1 := hR.free i
                have hset := hR.set i ((cntsTo l.length tb k).getD i 0 + 1)
                rw [← HS2.out] at hset
                obtain ⟨v0, v1⟩ := HCK.out i hil
                have hkb : (k : Int) ≤ 1000 := by omega
                generalize (cntsTo l.length tb k).getD i 0 = v at *
                have v2 : v ≤ 1000 := by omega
                have hbs := bl_set hb (g := g0) (i := i) hg0 (.int .i64 (v + 1))
                generalize l.getD i t0 = x at *
                obtain ⟨x0, x1, x2⟩ := x
                simp only [] at c0 c1 HS HNO
                clear hfm hf1 hf2 HT v1 HS2
                by_cases h1 : (k : Int) < x0
                · have HNF := Lib.hid (tabE_time HVE.out H60.out HNB.out (HNO.out (by rw [decide_eq_false (show ¬ x0 ≤ (k : Int) by omega)]; rfl)))
                  clear HS HNO
                  go_wp2_with (fail)
                  go_ret
                  exact ⟨ret_i HNF.out, hb⟩
                · by_cases h2 : x1 ≤ (k : Int)
                  · have HNF := Lib.hid (tabE_time HVE.out H60.out HNB.out (HNO.out (by rw [decide_eq_false (show ¬ (k : Int) < x1 by omega), Bool.and_false])))
                    clear HS HNO
                    go_wp2_with (fail)
                    go_ret
                    exact ⟨ret_i HNF.out, hb⟩
                  · have HS3 : Hid (timesTo l tb (k + 1) = true) := by show _ = _; rw [HS.out, decide_eq_true (show x0 ≤ (k : Int) by omega), decide_eq_true (show (k : Int) < x1 by omega)]; rfl
                    clear HS HNO
                    go_wp2_with (fail)
                    go_roundg gi
                    case rel => exact ⟨k + 1, by have := HK.out; show _ = _; omega, by go_num, HS3.out, hset, hbs⟩
                    case measure => omega
        · have hkN : k < tb.length := by have := HK.out; omega
          have hkN' : (k : Int) < (tb.length : Int) := by omega
          obtain ⟨b, o, rfl, _, hcc⟩ := (hrb.later hb1).at_ (k := k) (by rw [ints_length]; exact hkN)
          have hck := hcc k _ (ints_get hkN)
          have HS := Lib.hid (@numsB_take l.length tb k hkN)
          rw [HNT.out, Bool.true_and] at HS
          have HNO := Lib.hid (@numsB_no l.length tb k hkN)
          have HNU : Hid (numB l.length (tb.getD k 0) = (tb.getD k 0 == -1 || oneB (tb.getD k 0) l.length)) := rfl
          clear hcc
          generalize tb.getD k 0 = f at *
          by_cases h1 : f < -1
          · have HNF := Lib.hid (tabE_num HVE.out H60.out (HNO.out (by rw [HNU.out, oneB, decide_eq_false (show ¬ 0 ≤ f by omega), show (f == -1) = false by rw [beq_eq_false_iff_ne]; omega]; rfl)))
            clear HNO HS
            go_wp2_with (fail)
            go_ret
            exact ⟨ret_i HNF.out, hb1⟩
          · by_cases h2 : (l.length : Int) ≤ f
            · have HNF := Lib.hid (tabE_num HVE.out H60.out (HNO.out (by rw [HNU.out, oneB, decide_eq_false (show ¬ f < (l.length : Int) by omega), Bool.and_false, show (f == -1) = false by rw [beq_eq_false_iff_ne]; omega]; rfl)))
              clear HNO HS
              go_wp2_with (fail)
              go_ret
              exact ⟨ret_i HNF.out, hb1⟩
            · have HS2 : Hid (numsB l.length (tb.take (k + 1)) = true) := by
                show _ = _
                rw [HS.out, HNU.out]
                by_cases e : f = -1
                · subst e; rfl
                · rw [oneB, decide_eq_true (show 0 ≤ f by omega), decide_eq_true (show f < (l.length : Int) by omega)]; simp
              clear HNO HS
              go_wp2_with (fail)
              go_roundg gi
              case rel => exact ⟨k + 1, by have := HK.out; show _ = _; omega, by go_num, HS2.out, rfl⟩
              case measure => omega
  · have HB := tabE_valid (tb := tb) hv
    have hv' : (validE l != 0) = true := by simpa using hv
    rw [HB]
    clear HB
    generalize validE l = ev at *
    go_enter Try.func21, Try.ntmps21
    go_wp2_with (fail)
    refine HV.out.mono ?_
    rintro e w1 ⟨rfl, hb1⟩
    go_wp2_with (fail)
    go_ret
    exact ⟨rfl, hb1⟩
end Go.Proofs.Ytiffgaelndajpaa
