/- Which tables keep the jobs: package clock's. -/
import Derived.Test.YtiffgaelndajpaaEnds
namespace Go.Proofs.Ytiffgaelndajpaa
open Go.RowKit

theorem numsB_get {n : Nat} {tb : List Int} (h : numsB n tb = true) {t : Nat} (ht : t < tb.length) : -1 ≤ tb.getD t 0 ∧ tb.getD t 0 < (n : Int) := by
  have := List.all_eq_true.1 h _ (List.getElem_mem ht)
  rw [numB] at this
  simp only [Bool.or_eq_true, beq_iff_eq, Bool.and_eq_true, decide_eq_true_eq] at this
  simp only [List.getD_eq_getElem?_getD, List.getElem?_eq_getElem ht, Option.getD_some]
  omega
theorem cntsTo_succ (n : Nat) (tb : List Int) (t : Nat) : cntsTo n tb (t + 1) = cntStep (cntsTo n tb t) (tb.getD t 0) := rfl
theorem cntsTo_range (n : Nat) (tb : List Int) {k : Nat} (hk : k < n) (t : Nat) : 0 ≤ (cntsTo n tb t).getD k 0 ∧ (cntsTo n tb t).getD k 0 ≤ t := by
  rw [cntsTo_get n tb hk]
  have := cntP_le (fun t => tb.getD t 0 == (k : Int)) t
  omega
theorem enoughTo_succ (l : List T3) (cs : List Int) (k : Nat) : enoughTo l cs (k + 1) = (enoughTo l cs k && (cs.getD k 0 == (l.getD k t0).2.2)) := by
  simp [enoughTo, List.range_succ, List.all_append]
theorem enoughTo_no {l : List T3} {cs : List Int} {k n : Nat} (hk : k < n) (h : cs.getD k 0 ≠ (l.getD k t0).2.2) : enoughTo l cs n = false := by
  rw [← Bool.not_eq_true, enoughTo_z]
  intro h2; exact h (h2 k hk)

set_option maxRecDepth 100000 in
set_option maxHeartbeats 4000000 in
theorem isEnough_c (A : Option Addr) (l : List T3) (c : Nat) (B : Option Addr) (tb : List Int) (cb : Nat) (w : World) (h8 : l.length ≤ 8) (h60 : tb.length ≤ 1000) (hn : numsB l.length tb = true) (hr : Rd w A (cellsT l)) (hrb : Rd w B (ints tb)) :
    Calls Try.prog 57 #[.slice A l.length c, .slice B tb.length cb] w fun e w' => e = .returned (.bool (enoughB l tb)) ∧ Below w.heap.size w w' := by
  obtain ⟨cs, hmk, hcs⟩ := make_ints l.length (by omega) w
  have hR0 : Row (w.alloc (.cells cs 3)) w.heap.size (cntsTo l.length tb 0) := by rw [hcs]; exact Bx.new w _ _
  have hbl : Below w.heap.size w (w.alloc (.cells cs 3)) := bl_alloc (Below.refl _ _) _
  have HE : Hid (enoughB l tb = enoughTo l (cntsTo l.length tb tb.length) l.length) := rfl
  have HG := Lib.hid (fun t (h : t < tb.length) => numsB_get hn h)
  have HS := Lib.hid (cntsTo_succ l.length tb)
  have HCL := Lib.hid (cntsTo_len l.length tb)
  have HCR := Lib.hid (fun k (h : k < l.length) t => cntsTo_range l.length tb h t)
  clear hcs hn
  go_enter Try.func57, Try.ntmps57
  go_wp2_with (fail)
  generalize w.alloc (.cells cs 3) = w0 at *
  clear hmk
  go_loopg [15] tb.length (fun gk iv wr => ∃ k : Nat, Hid (k + gk = tb.length) ∧ iv = .int .i64 (k : Int) ∧ Row wr w.heap.size (cntsTo l.length tb k) ∧ Below w.heap.size w wr)
  case atStart => exact ⟨0, by simp [Hid], rfl, hR0, hbl⟩
  case round =>
    obtain ⟨k, HK, rfl, hR, hb⟩ := hrel
    clear hR0 hbl
    rcases gk with _ | gi
    · obtain rfl : k = tb.length := HK.out
      have HCLe := Lib.hid (HCL.out tb.length)
      have HCRe : Hid (∀ k, k < l.length → 0 ≤ (cntsTo l.length tb tb.length).getD k 0 ∧ (cntsTo l.length tb tb.length).getD k 0 ≤ 1000) := fun k h => by have := HCR.out k h tb.length; omega
      generalize cntsTo l.length tb tb.length = C at *
      go_wp2_with (fail)
      go_loopg [30] l.length (fun gk iv wr => ∃ k : Nat, Hid (k + gk = l.length) ∧ iv = .int .i64 (k : Int) ∧ Hid (enoughTo l C k = true) ∧ Row wr w.heap.size C ∧ Below w.heap.size w wr)
      case atStart => exact ⟨0, by simp [Hid], rfl, rfl, hR, hb⟩
      case round =>
        clear hR hb
        obtain ⟨k, HK, rfl, HT, hR, hb⟩ := hrel
        rcases gk with _ | gi
        · obtain rfl : k = l.length := HK.out
          go_wp2_with (fail)
          go_ret
          exact ⟨ret_b (by rw [HE.out, HT.out]), hb⟩
        · have hkl : k < l.length := by have := HK.out; omega
          have hkl' : (k : Int) < (l.length : Int) := by omega
          obtain ⟨b, o, rfl, hbl, c0, c1, c2⟩ := (hr.later hb).tri hkl
          have HSU := Lib.hid (enoughTo_succ l C k)
          rw [HT.out, Bool.true_and] at HSU
          have HNO := Lib.hid (@enoughTo_no l C k l.length hkl)
          generalize hxg : l.getD k t0 = x at *
          have HXG := Lib.hid hxg
          obtain ⟨x0, x1, x2⟩ := x
          simp only [] at c0 c1 c2 HSU HNO
          have hbx : Bx (wr.alloc (.cells #[.int .i64 x0, .int .i64 x1, .int .i64 x2] 40)) wr.heap.size 40 #[.int .i64 x0, .int .i64 x1, .int .i64 x2] := Bx.new _ _ _
          have hRa := hR.alloc (.cells #[.int .i64 x0, .int .i64 x1, .int .i64 x2] 40)
          have hba := bl_alloc hb (.cells #[.int .i64 x0, .int .i64 x1, .int .i64 x2] 40)
          have y0 := hRa.get (k := k) (by rw [HCLe.out]; exact hkl)
          obtain ⟨z0, z1, z2, _, _, _⟩ := hbx.three
          generalize C.getD k 0 = v at *
          clear hxg hR
          go_wp2_with (fail)
          generalize wr.alloc (.cells #[.int .i64 x0, .int .i64 x1, .int .i64 x2] 40) = W at *
          by_cases he : v = x2
          · subst he
            have HT2 : Hid (enoughTo l C (k + 1) = true) := by show _ = _; rw [HSU.out]; simp
            clear HSU HNO
            go_quiet (fail)
            go_wp2_with (fail)
            go_roundg gi
            case rel => exact ⟨k + 1, by have := HK.out; show _ = _; omega, by go_num, HT2.out, hRa.call (below_drewN (Below.refl _ _) _), below_drewN hba _⟩
            case measure => omega
          · have hne : (v != x2) = true := by rw [bne_iff_ne]; exact he
            have HNF := Lib.hid (HNO.out he)
            clear HSU HNO he
            go_quiet (fail)
            go_wp2_with (fail)
            go_ret
            exact ⟨ret_b (by rw [HE.out, HNF.out]), below_drewN hba _⟩
    · have hkN : k < tb.length := by have := HK.out; omega
      have hkN' : (k : Int) < (tb.length : Int) := by omega
      obtain ⟨b, o, rfl, hbl2, hcc⟩ := (hrb.later hb).at_ (k := k) (by rw [ints_length]; exact hkN)
      have hck := hcc k _ (ints_get hkN)
      have hf := HG.out k hkN
      have HSK := Lib.hid (HS.out k)
      have HLK := Lib.hid (HCL.out k)
      have HCK := Lib.hid (fun i h => HCR.out i h k)
      clear hcc
      generalize tb.getD k 0 = f at *
      obtain ⟨hf1, hf2⟩ := hf
      by_cases hfm : f = -1
      · subst hfm
        have HS2 : Hid (cntsTo l.length tb (k + 1) = cntsTo l.length tb k) := by show _ = _; rw [HSK.out]; rfl
        go_wp2_with (fail)
        go_roundg gi
        case rel => exact ⟨k + 1, by have := HK.out; show _ = _; omega, by go_num, by rw [HS2.out]; exact hR, hb⟩
        case measure => omega
      · obtain ⟨i, rfl⟩ := Int.eq_ofNat_of_zero_le (show 0 ≤ f by omega)
        have hil : i < l.length := by omega
        have hil' : (i : Int) < (l.length : Int) := by omega
        have hne : ((i : Int) != -1) = true := by rw [bne_iff_ne]; omega
        have HS2 : Hid (cntsTo l.length tb (k + 1) = (cntsTo l.length tb k).set i ((cntsTo l.length tb k).getD i 0 + 1)) := by show _ = _; rw [HSK.out, cntStep, if_neg (by omega), Int.toNat_natCast]
        have y0 := hR.get (k := i) (by rw [HLK.out]; exact hil)
        have y1 := hR.free i
        have hset := hR.set i ((cntsTo l.length tb k).getD i 0 + 1)
        rw [← HS2.out] at hset
        obtain ⟨v0, v1⟩ := HCK.out i hil
        have hkb : (k : Int) ≤ 1000 := by omega
        generalize (cntsTo l.length tb k).getD i 0 = v at *
        have v2 : v ≤ 1000 := by omega
        have hbs := bl_set hb (g := w.heap.size) (i := i) (Nat.le_refl _) (.int .i64 (v + 1))
        clear hf2 hfm HS2 v1
        go_wp2_with (fail)
        go_roundg gi
        case rel => exact ⟨k + 1, by have := HK.out; show _ = _; omega, by go_num, hset, hbs⟩
        case measure => omega
end Go.Proofs.Ytiffgaelndajpaa
