/- The walk of the law on plans that lead back. -/
import Derived.Test.YtjgpfnnokdcgoaaKnownZ
import Derived.Test.YtjgpfnnokdcgoaaRbackZ
namespace Go.Proofs.Ytjgpfnnokdcgoaa
open Go.RowKit Go.Maps

set_option maxRecDepth 100000 in
set_option maxHeartbeats 4000000 in
theorem zoneBacks_walk (Z : Int) (A : Option Addr) (l : List (Int × Int)) (c : Nat) (B : Option Addr) (p : List Int) (d : Nat) (C : Option Addr) (M : List (Int × Int)) (f : Nat) (w : World) (_hcap : l.length ≤ c) (hcap' : p.length ≤ d) (_hcap2 : M.length ≤ f) (hr : Rd w A (cellsP l)) (hs : Rd w B (ints p)) (hm : Rd w C (cellsP M)) :
    Calls Try.prog 6 #[trapV Z A l.length c, .slice B p.length d, .slice C M.length f] w fun e w' => e = .returned (.bool true) ∧ Below w.heap.size w w' := by
  have HL := fun w => Lib.hid (long_c Z A l.length c w)
  have HM := fun w => Lib.hid (many_c B p.length d w)
  have HK := fun w => Lib.hid (known_c w)
  have x0 := Bx.new w 24 #[.int .i64 Z, .slice A l.length c]
  have hb0 := bl_alloc (Below.refl w.heap.size w) (.cells #[.int .i64 Z, .slice A l.length c] 24)
  generalize hw0 : w.alloc (.cells #[.int .i64 Z, .slice A l.length c] 24) = w0 at *
  obtain ⟨c0, c1, _⟩ := x0.two
  by_cases hlong : 60 < l.length
  · rw [decide_eq_true hlong] at HL
    go_enter Try.func6, Try.ntmps6
    go_wp2_with (fail)
    refine (HL _).out.mono ?_
    rintro e w1 ⟨rfl, hb1⟩
    go_wp2_with (fail)
    refine (HK _).out.mono ?_
    rintro e w2 ⟨rfl, hb2⟩
    go_wp2_with (fail)
    go_ret
    exact ⟨rfl, bl_call hb0 (bl_call hb1 hb2)⟩
  · rw [decide_eq_false hlong] at HL
    by_cases hmany : 40 < p.length
    · rw [decide_eq_true hmany] at HM
      go_enter Try.func6, Try.ntmps6
      go_wp2_with (fail)
      refine (HL _).out.mono ?_
      rintro e w1 ⟨rfl, hb1⟩
      go_wp2_with (fail)
      refine (HM _).out.mono ?_
      rintro e w2 ⟨rfl, rfl⟩
      go_wp2_with (fail)
      refine (HK _).out.mono ?_
      rintro e w2 ⟨rfl, hb2⟩
      go_wp2_with (fail)
      go_ret
      exact ⟨rfl, bl_call hb0 (bl_call hb1 hb2)⟩
    · rw [decide_eq_false hmany] at HM
      by_cases hM : M.length ≤ 1000
      · have hM' : ¬ (M.length : Int) > 1000 := by omega
        have hlen : l.length ≤ 1000 := by omega
        have hlen' : p.length ≤ 1000 := by omega
        have H1 := fun w1 hr1 hs1 hm1 => Lib.hid (Back_c Z A B C l p M c d f w1 hlen hlen' (by omega) hr1 hs1 hm1)
        have H2 := fun w1 hr1 hs1 hm1 => Lib.hid (rBack_c Z A B C l p M c d f w1 hlen hlen' hcap' (by omega) hr1 hs1 hm1)
        have H3 := fun w1 hr1 hs1 hm1 => Lib.hid (CheckPlan_c Z A B C l p M c d f w1 hlen hlen' (by omega) hr1 hs1 hm1)
        have HGl := planG_len Z l p M
        have HBl : (backG Z l p M).length ≤ 1000 := by
          rw [backG]; split
          · rw [bkR_len]; exact hM
          · simp
        have HBL : (planG Z l p M).2.2 = 0 → (backG Z l p M).length = M.length := fun h => by rw [backG, if_pos h, bkR_len]
        have HOK := fun h => @planG_ok Z l p M h
        have HBK := fun h => @planG_back Z l p M h
        have H4 := fun (A2 C2 : Option Addr) (q : List Int) (X : List (Int × Int)) (d2 f2 : Nat) w1 (h1 : q.length ≤ 1000) (h2 : X.length ≤ 100000) hr1 hs1 hm1 => Lib.hid (CheckPlan_c Z A A2 C2 l q X c d2 f2 w1 hlen h1 h2 hr1 hs1 hm1)
        generalize hG : planG Z l p M = G at *
        generalize hX : backG Z l p M = X at *
        obtain ⟨F, nm, ee⟩ := G
        unfold OutP at H3
        simp only [] at H1 H2 H3 HGl HBK HOK HBL
        clear hlong hmany
        go_enter Try.func6, Try.ntmps6
        go_wp2_with (fail)
        refine (HL _).out.mono ?_
        rintro e w1 ⟨rfl, hb1⟩
        go_wp2_with (fail)
        refine (HM _).out.mono ?_
        rintro e w2 ⟨rfl, rfl⟩
        have y1 := x0.call hb1
        have hb01 := bl_call hb0 hb1
        clear c0 c1
        obtain ⟨c0, c1, _⟩ := y1.two
        go_wp2_with (fail)
        refine (H1 _ (hr.later hb01) (hs.later hb01) (hm.later hb01)).out.mono ?_
        rintro e w2 ⟨A1, c1', rfl, ho1, hb2⟩
        have hb02 := bl_call hb01 hb2
        have y2 := y1.call hb2
        clear c0 c1
        obtain ⟨c0, c1, _⟩ := y2.two
        go_wp2_with (fail)
        refine (H2 _ (hr.later hb02) (hs.later hb02) (hm.later hb02)).out.mono ?_
        rintro e w3 ⟨A2, c2', rfl, ho2, hb3⟩
        have hb03 := bl_call hb02 hb3
        have HSM := Lib.hid (sameM_c A1 A2 X X c1' c2' w3 (by omega) ((own_rd ho1).1.later hb3) (own_rd ho2).1)
        rw [show decide (X = X) = true by simp] at HSM
        clear c0 c1 H1 H2
        go_wp2_with (fail)
        refine HSM.out.mono ?_
        rintro e w4 ⟨rfl, hb4⟩
        have hb04 := bl_call hb03 hb4
        have y4 := (y2.call hb3).call hb4
        have hr1 := (own_rd ho1).1.later (bl_call hb3 hb4)
        by_cases hE : ee = 0
        · subst hE
          have hb := HBK rfl
          have hok := (HOK rfl).2.2.2
          have hbl := HBL rfl
          injection hok with hF hok
          injection hok with hok hF2
          subst hok
          clear hF hF2
          clear hbl
          have H5 := fun A5 d5 w1 h hh hhh => H4 A5 A1 F X d5 c1' w1 HGl (by omega) h hh hhh
          obtain ⟨c0, c1, _⟩ := y4.two
          clear HBK HOK H4 HBL
          go_wp2_with (fail)
          refine (H3 _ (hr.later hb04) (hs.later hb04) (hm.later hb04)).out.mono ?_
          rintro e w5 ⟨A5, c5', rfl, ho5, hb5⟩
          have hb05 := bl_call hb04 hb5
          have y5 := y4.call hb5
          clear c0 c1
          obtain ⟨c0, c1, _⟩ := y5.two
          have H6 := (H5 A5 c5' w5 (hr.later hb05) (own_rd ho5).1 (hr1.later hb5)).out
          unfold OutP at H6
          rw [hb] at H6
          simp only [] at H6
          have H7 := Lib.hid H6
          clear H6 H5
          go_wp2_with (fail)
          refine H7.out.mono ?_
          rintro e w6 ⟨A6, c6', rfl, ho6, hb6⟩
          have hb06 := bl_call hb05 hb6
          have HSI := Lib.hid (sameInts_c A6 B p p c6' d w6 (by omega) (own_rd ho6).1 (hs.later hb06))
          rw [show decide (p = p) = true by simp] at HSI
          clear c0 c1 hb
          go_wp2_with (fail)
          refine HSI.out.mono ?_
          rintro e w7 ⟨rfl, hb7⟩
          go_wp2_with (fail)
          refine (HK _).out.mono ?_
          rintro e w8 ⟨rfl, hb8⟩
          go_wp2_with (fail)
          go_ret
          exact ⟨rfl, bl_call (bl_call hb06 hb7) hb8⟩
        · clear HBK HOK H4 HBL H3
          go_wp2_with (fail)
          refine (HK _).out.mono ?_
          rintro e w8 ⟨rfl, hb8⟩
          go_wp2_with (fail)
          go_ret
          exact ⟨rfl, bl_call hb04 hb8⟩
      · have hM' : (M.length : Int) > 1000 := by omega
        go_enter Try.func6, Try.ntmps6
        go_wp2_with (fail)
        refine (HL _).out.mono ?_
        rintro e w1 ⟨rfl, hb1⟩
        go_wp2_with (fail)
        refine (HM _).out.mono ?_
        rintro e w2 ⟨rfl, rfl⟩
        go_wp2_with (fail)
        refine (HK _).out.mono ?_
        rintro e w2 ⟨rfl, hb2⟩
        go_wp2_with (fail)
        go_ret
        exact ⟨rfl, bl_call hb0 (bl_call hb1 hb2)⟩
end Go.Proofs.Ytjgpfnnokdcgoaa
