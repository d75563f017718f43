/- The walk of the law on plans. -/
import Derived.Test.YtjgpfnnokdcgoaaKnownZ
import Derived.Test.YtjgpfnnokdcgoaaRcheckP
namespace Go.Proofs.Ytjgpfnnokdcgoaa
open Go.RowKit Go.Maps

set_option maxRecDepth 100000 in
set_option maxHeartbeats 4000000 in
theorem zonePlans_walk (Z : Int) (A : Option Addr) (l : List (Int × Int)) (c : Nat) (B : Option Addr) (p : List Int) (d : Nat) (C : Option Addr) (M : List (Int × Int)) (f : Nat) (w : World) (_hcap : l.length ≤ c) (hcap' : p.length ≤ d) (_hcap2 : M.length ≤ f) (hr : Rd w A (cellsP l)) (hs : Rd w B (ints p)) (hm : Rd w C (cellsP M)) :
    Calls Try.prog 5 #[trapV Z A l.length c, .slice B p.length d, .slice C M.length f] w fun e w' => e = .returned (.bool true) ∧ Below w.heap.size w w' := by
  obtain ⟨i0, hi, hz0, hz1, hz2⟩ := info_parts int_info
  have HL := fun w => Lib.hid (long_c Z A l.length c w)
  have HM := fun w => Lib.hid (many_c B p.length d w)
  have HK := fun w => Lib.hid (known_c w)
  have x0 := Bx.new w 24 #[.int .i64 Z, .slice A l.length c]
  have hb0 := bl_alloc (Below.refl w.heap.size w) (.cells #[.int .i64 Z, .slice A l.length c] 24)
  generalize hw0 : w.alloc (.cells #[.int .i64 Z, .slice A l.length c] 24) = w0 at *
  obtain ⟨c0, c1, _⟩ := x0.two
  by_cases hlong : 60 < l.length
  · rw [decide_eq_true hlong] at HL
    go_enter Try.func5, Try.ntmps5
    go_wp2_with (fail)
    refine (HL _).out.mono ?_
    rintro e w1 ⟨rfl, hb1⟩
    go_wp2_with (fail)
    refine (HK _).out.mono ?_
    rintro e w2 ⟨rfl, hb2⟩
    go_wp2_with (fail)
    go_ret
    exact ⟨rfl, bl_call hb0 (bl_call hb1 hb2)⟩
  · rw [decide_eq_false hlong] at HL
    by_cases hmany : 40 < p.length
    · rw [decide_eq_true hmany] at HM
      go_enter Try.func5, Try.ntmps5
      go_wp2_with (fail)
      refine (HL _).out.mono ?_
      rintro e w1 ⟨rfl, hb1⟩
      go_wp2_with (fail)
      refine (HM _).out.mono ?_
      rintro e w2 ⟨rfl, rfl⟩
      go_wp2_with (fail)
      refine (HK _).out.mono ?_
      rintro e w2 ⟨rfl, hb2⟩
      go_wp2_with (fail)
      go_ret
      exact ⟨rfl, bl_call hb0 (bl_call hb1 hb2)⟩
    · rw [decide_eq_false hmany] at HM
      by_cases hM : M.length ≤ 1000
      · have hM' : ¬ (M.length : Int) > 1000 := by omega
        have hlen : l.length ≤ 1000 := by omega
        have hlen' : p.length ≤ 1000 := by omega
        have H1 := fun B d w1 hr1 hs1 hm1 => Lib.hid (CheckPlan_c Z A B C l p M c d f w1 hlen hlen' (by omega) hr1 hs1 hm1)
        have H2 := fun w1 hr1 hs1 hm1 => Lib.hid (rCheckPlan_c Z A B C l p M c d f w1 hlen hlen' hcap' (by omega) hr1 hs1 hm1)
        have HFl := planG_len Z l p M
        generalize planG Z l p M = G at *
        obtain ⟨F, nm, ee⟩ := G
        unfold OutP at H1 H2
        simp only [] at H1 H2 HFl
        clear hlong hmany
        go_enter Try.func5, Try.ntmps5
        go_wp2_with (fail)
        refine (HL _).out.mono ?_
        rintro e w1 ⟨rfl, hb1⟩
        go_wp2_with (fail)
        refine (HM _).out.mono ?_
        rintro e w2 ⟨rfl, rfl⟩
        have y1 := x0.call hb1
        have hb01 := bl_call hb0 hb1
        have ha0 : Below w1.heap.size w1 (w1.alloc (.cells #[] 3)) := bl_alloc (Below.refl _ _) _
        go_wp2_with (at_builtin; refine wpList_append_any rfl _ _ 25 rfl w1.heap.size 3 i0 _ 8 Try.underlying25 hi hz0 hz1 hz2 rfl _ 0 [] rfl (World.ownsRow_made (e := 3) (size := 1) w1 #[] 0 (Nat.le_refl _) (by decide) rfl) B p d rfl (hs.later (bl_call hb01 ha0)) (by unfold maxLen; omega) (by omega) (by simp) ?_)
        intro A0 c0' w2 ho0 hg1
        have hb2 : Below w1.heap.size w1 w2 := ha0.trans (grown_below (World.ownsRow_made (e := 3) (size := 1) w1 #[] 0 (Nat.le_refl _) (by decide) rfl) hg1 (by simp))
        clear hg1 ha0
        have hb02 := bl_call hb01 hb2
        have y2 := y1.call hb2
        clear c0 c1
        obtain ⟨c0, c1, _⟩ := y2.two
        go_wp2_with (fail)
        refine (H1 A0 c0' _ (hr.later hb02) (own_rd ho0).1 (hm.later hb02)).out.mono ?_
        rintro e w3 ⟨A1, c1', rfl, ho1, hb3⟩
        have hb03 := bl_call hb02 hb3
        have y3 := y2.call hb3
        clear c0 c1
        obtain ⟨c0, c1, _⟩ := y3.two
        go_wp2_with (fail)
        refine (H2 _ (hr.later hb03) (hs.later hb03) (hm.later hb03)).out.mono ?_
        rintro e w4 ⟨A2, c2', rfl, ho2, hb4⟩
        have hb04 := bl_call hb03 hb4
        have hb24 := bl_call hb3 hb4
        have HSI := Lib.hid (sameInts_c A1 A2 F F c1' c2' w4 (by omega) ((own_rd ho1).1.later hb4) (own_rd ho2).1)
        rw [show decide (F = F) = true by simp] at HSI
        have ho1' := own_call ho1 hb4
        clear c0 c1
        go_wp2_with (fail)
        refine HSI.out.mono ?_
        rintro e w5 ⟨rfl, hb5⟩
        have ho15 := own_call ho1' hb5
        have hb25 := bl_call hb24 hb5
        have hb05 := bl_call hb04 hb5
        have hb15 := hb2.size
        go_wp2_with (fail)
        go_loopg [14] F.length (fun gk iv wr => ∃ (k : Nat) (F' : List Int), Hid (k + gk = F.length) ∧ iv = .int .i64 (k : Int) ∧ wr.ownsRow w2.heap.size 3 1 (.slice A1 F.length c1') F.length (ints F') ∧ Hid (F'.length = F.length) ∧ Below w2.heap.size w2 wr)
        case atStart => exact ⟨0, F, by simp [Hid], rfl, ho15, by simp [Hid], hb25⟩
        case round =>
          obtain ⟨k, F', HKK, rfl, hown, HFL, hb⟩ := hrel
          rcases gk with _ | gi
          · obtain rfl : k = F.length := HKK.out
            have hb0r := bl_call hb02 hb
            have HSE := Lib.hid (sameInts_c A0 B p p c0' d wr (by omega) ((own_rd ho0).1.later hb) (hs.later hb0r))
            rw [show decide (p = p) = true by simp] at HSE
            go_wp2_with (fail)
            refine HSE.out.mono ?_
            rintro e w6 ⟨rfl, hb6⟩
            go_wp2_with (fail)
            refine (HK _).out.mono ?_
            rintro e w7 ⟨rfl, hb7⟩
            go_wp2_with (fail)
            go_ret
            exact ⟨rfl, bl_call (bl_call hb0r hb6) hb7⟩
          · have hkl : k < F'.length := by have h := HKK.out; have h2 := HFL.out; omega
            have hkl' : (k : Int) < (F.length : Int) := by have h := HKK.out; omega
            have hown' : wr.ownsRow w2.heap.size 3 1 (.slice A1 F'.length c1') F'.length (ints F') := by rw [HFL.out]; exact hown
            obtain ⟨g, rfl, hg, n0, f0, hown6⟩ := own_putI hown' hkl (-1)
            simp only [List.length_set] at hown6
            rw [HFL.out] at hown6
            have HO := Lib.hid hown6
            clear hown6 hown' hown
            go_wp2_with (fail)
            go_roundg gi
            case rel => exact ⟨k + 1, F'.set k (-1), by have h := HKK.out; show _ = _; omega, by go_num, HO.out, by have h := HFL.out; show _ = _; simpa using h, hb.setCell (p := ⟨g, k, none⟩) hg _⟩
            case measure => omega
      · have hM' : (M.length : Int) > 1000 := by omega
        go_enter Try.func5, Try.ntmps5
        go_wp2_with (fail)
        refine (HL _).out.mono ?_
        rintro e w1 ⟨rfl, hb1⟩
        go_wp2_with (fail)
        refine (HM _).out.mono ?_
        rintro e w2 ⟨rfl, rfl⟩
        go_wp2_with (fail)
        refine (HK _).out.mono ?_
        rintro e w2 ⟨rfl, hb2⟩
        go_wp2_with (fail)
        go_ret
        exact ⟨rfl, bl_call hb0 (bl_call hb1 hb2)⟩
end Go.Proofs.Ytjgpfnnokdcgoaa
