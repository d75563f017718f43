/- The best total for a cost: the document's Best. -/
import Derived.Test.YtgbjglkiaoplmaaRcp
import Derived.Test.YtgbjglkiaoplmaaBst
namespace Go.Proofs.Ytgbjglkiaoplmaa
open Go.RowKit

theorem bestTo_in {l : List It} {fs : List Fx} {k : Int} (hv : vfE l fs = 0) : ∀ (L : List (List Int)), (∀ c ∈ L, Cho fs c) → 0 ≤ bestTo l fs k L ∧ bestTo l fs k L ≤ 120960 := by
  intro L
  induction L using list_snoc_ind with
  | h0 => intro _; exact parts_bound (vfE_ok hv).1
  | h1 L c ih =>
    intro h
    have h1 := ih (fun x hx => h x (by simp [hx]))
    have h2 := parts_bound (with_ok hv (h c (by simp))).1
    rw [bestTo_snoc]
    unfold bestS
    split <;> omega
set_option maxRecDepth 100000 in
set_option maxHeartbeats 4000000 in
theorem rBest_c (A : Option Addr) (l : List It) (cap : Nat) (B : Option Addr) (fs : List Fx) (cap2 : Nat) (k : Int) (w : World) (hlen : l.length ≤ 1000) (hlen2 : fs.length ≤ 1000) (hr : Rd w A (cellsI l)) (hf : Rd w B (cellsF fs)) :
    Calls Try.prog 48 #[.slice A l.length cap, .slice B fs.length cap2, .int .i64 k] w fun e w' => e = .returned (.tuple #[.agg #[.int .i64 (bstG l fs k).1, .int .i64 (bstG l fs k).2], .int .i64 (bstE l fs k)]) ∧ Below w.heap.size w w' := by
  have hb0 : Below w.heap.size w (w.alloc (.cells #[.int .i64 0, .int .i64 0] 30)) := bl_alloc (Below.refl _ _) _
  have x0 : Bx (w.alloc (.cells #[.int .i64 0, .int .i64 0] 30)) w.heap.size 30 #[.int .i64 0, .int .i64 0] := Bx.newAt rfl
  have HV := Lib.hid (rValidateFixes_c A l cap B fs cap2 _ hlen hlen2 (hr.later hb0) (hf.later hb0))
  have HI := fun w => Lib.hid (within_c k 0 792 w)
  by_cases hv : vfE l fs = 0
  rotate_left
  · have hE : bstE l fs k = vfE l fs := by unfold bstE; rw [if_neg hv]
    have hG : bstG l fs k = (0, 0) := by unfold bstG; rw [hE, if_neg hv]
    have hv' : (vfE l fs == 0) = false := by rw [beq_eq_false_iff_ne]; exact hv
    rw [hE, hG]
    clear hE hG
    generalize vfE l fs = z at *
    go_enter Try.func48, Try.ntmps48
    go_wp2_with (fail)
    refine HV.out.mono ?_
    rintro e w1 ⟨rfl, hb1⟩
    have x1 := x0.call hb1
    have hb01 := bl_call hb0 hb1
    obtain ⟨z0, z1, z2, z3⟩ := x1.two
    go_wp2_with (fail)
    refine bodyPost_ret (results_cell_tmp rfl _ _ w.heap.size 30 _ (0, 0) _ _ rfl rfl (x1.set2 _ _) Try.underlying30 rfl (by kernel_rfl)) rfl ?_
    exact ⟨rfl, bl_set (bl_set hb01 (Nat.le_refl _) _) (Nat.le_refl _) _⟩
  · by_cases hk : 0 ≤ k ∧ k ≤ 792
    rotate_left
    · have hE : bstE l fs k = 1 := by unfold bstE; rw [if_pos hv, if_neg hk]
      have hG : bstG l fs k = (0, 0) := by unfold bstG; rw [hE]; rfl
      have hz : inB k 0 792 = false := by unfold inB; rw [← Bool.not_eq_true, Bool.and_eq_true, decide_eq_true_eq, decide_eq_true_eq]; exact hk
      rw [hv] at HV
      rw [hz] at HI
      rw [hE, hG]
      clear hE hG hv hz hk
      go_enter Try.func48, Try.ntmps48
      go_wp2_with (fail)
      refine HV.out.mono ?_
      rintro e w1 ⟨rfl, hb1⟩
      have x1 := x0.call hb1
      have hb01 := bl_call hb0 hb1
      obtain ⟨z0, z1, z2, z3⟩ := x1.two
      go_wp2_with (fail)
      refine (HI _).out.mono ?_
      rintro e w2 ⟨rfl, rfl⟩
      go_wp2_with (fail)
      refine bodyPost_ret (results_cell_tmp rfl _ _ w.heap.size 30 _ (0, 0) _ _ rfl rfl (x1.set2 _ _) Try.underlying30 rfl (by kernel_rfl)) rfl ?_
      exact ⟨rfl, bl_set (bl_set hb01 (Nat.le_refl _) _) (Nat.le_refl _) _⟩
    · have hE : bstE l fs k = 0 := by unfold bstE; rw [if_pos hv, if_pos hk]
      have hG : bstG l fs k = rat (bestL l fs k) := by unfold bstG; rw [if_pos hE]
      have hz : inB k 0 792 = true := by unfold inB; rw [Bool.and_eq_true, decide_eq_true_eq, decide_eq_true_eq]; exact hk
      have hn8 := (vfE_ok hv).2.1
      have h1 := (vfE_ok hv).1
      have hbb : 0 ≤ bestL l fs k ∧ bestL l fs k ≤ 120960 := bestTo_in hv (allF fs) (fun c hc => all_mem.1 hc)
      have HRt := Lib.hid (fun w => show Calls Try.prog 55 #[.int .i64 (bestL l fs k), .int .i64 2520] w fun e w' => e = .returned (.agg #[.int .i64 (rat (bestL l fs k)).1, .int .i64 (rat (bestL l fs k)).2]) ∧ Below w.heap.size w w' from rRatio_c (bestL l fs k) 2520 w ⟨hbb.1, by omega⟩ ⟨by decide, by decide⟩)
      have HP0 := fun w hr => Lib.hid (rparts_c A l cap 8 w (val_ok h1) (valE_ok h1).1 (by decide) hr)
      have hal := all_len fs hn8
      have HR : Hid (bestL l fs k = bestTo l fs k (allF fs)) := rfl
      have HTS := Lib.hid (fun j (hj : j < (allF fs).length) => show bestTo l fs k ((allF fs).take (j + 1)) = bestS l fs k (bestTo l fs k ((allF fs).take j)) ((allF fs).getD j []) by rw [all_take hj, bestTo_snoc])
      have HS0 : Hid (bestTo l fs k ((allF fs).take 0) = partsL l) := rfl
      have HCS : Hid (∀ s c, bestS l fs k s c = if (withL l fs c).2 ≤ k then min s (partsL (withL l fs c).1) else s) := fun _ _ => rfl
      have HW := fun C c cap3 w (hc : Cho fs c) hr hf hk => Lib.hid (rwith_c A l cap B fs cap2 C c cap3 w hv (cho_in hc) (by have := cho_len hc hn8; omega) hr hf hk)
      have HWL := Lib.hid (fun c => withL_len l fs c)
      have HCl := Lib.hid (fun D c cap4 w (hc : Cho fs c) hd => rparts_c D (withL l fs c).1 cap4 8 w (val_ok (with_ok hv hc).1) (valE_ok (with_ok hv hc).1).1 (by decide) hd)
      have HCho := Lib.hid (fun j (hj : j < (allF fs).length) => all_cho hj)
      have HC := Lib.hid (fun W (hW : Rd W B (cellsF fs)) => rchoices_c B fs cap2 hn8 fs.length none [] 0 W (Nat.le_refl _) (by simp) (.inl ⟨rfl, rfl⟩) hW (.inl rfl))
      have HAF : Hid (allF fs = [] :: goF fs fs.length []) := rfl
      rw [hv] at HV
      rw [hz] at HI
      rw [hE, hG]
      clear hE hG hv hz hk hn8 h1 hbb
      go_enter Try.func48, Try.ntmps48
      go_wp2_with (fail)
      refine HV.out.mono ?_
      rintro e w0' ⟨rfl, hb1⟩
      have x1 := x0.call hb1
      have hb01 := bl_call hb0 hb1
      clear HV x0 hb0 hb1
      go_wp2_with (fail)
      refine (HI _).out.mono ?_
      rintro e wq ⟨rfl, rfl⟩
      go_wp2_with (fail)
      refine (HP0 _ (hr.later hb01)).out.mono ?_
      rintro e w2 ⟨rfl, hb2⟩
      have x2 := x1.call hb2
      have hb02 := bl_call hb01 hb2
      have HC2 := HC.out w2 (hf.later hb02)
      unfold OutCh at HC2
      have HC3 := Lib.hid HC2
      clear HI HP0 x1 hb01 hb2 HC2 HC
      go_wp2_with (fail)
      refine HC3.out.mono ?_
      rintro f w1 ⟨A1, c1, hs, rfl, hown, htab0, hb3⟩
      have htab1 := htab0.cons0
      rw [← HAF.out] at htab1
      have hlen : hs.length + 1 = (allF fs).length := by have := htab1.1; simpa using this
      rw [hlen] at hown ⊢
      have x3 := x2.call hb3
      have hb03 := bl_call hb02 hb3
      generalize hrow : (Value.slice none ([] : List Int).length 0 :: hs) = rows at hown
      have htab : Tab w1 w2.heap.size rows (allF fs) := by rw [← hrow]; exact htab1
      have htb := Lib.hid htab
      have hro := Lib.hid (own_rd hown).1
      have hw1 : Below w1.heap.size w1 w1 := Below.refl _ _
      clear HC3 HAF x2 hb02 hb3 htab0 htab1 hrow hlen htab hown
      generalize allF fs = L at *
      go_wp2_with (fail)
      go_loopg [9, 11] L.length (fun gk sv iv wr => ∃ j : Nat, Hid (j + gk = L.length) ∧ iv = .int .i64 (j : Int) ∧ sv = .int .i64 (bestTo l fs k (L.take j)) ∧ Bx wr w.heap.size 30 #[.int .i64 0, .int .i64 0] ∧ Below w1.heap.size w1 wr)
      case atStart => exact ⟨0, by simp [Hid], rfl, by rw [HS0.out], x3, hw1⟩
      case round =>
        clear x3 hw1
        obtain ⟨j, HK, rfl, rfl, hx, hb⟩ := hrel
        rcases gk with _ | gi
        · obtain rfl : j = L.length := HK.out
          rw [List.take_length, ← HR.out]
          go_wp2_with (fail)
          refine (HRt.out _).mono ?_
          rintro e w4 ⟨rfl, hb4⟩
          have hx4 := hx.call hb4
          have hb04 := bl_call (bl_call hb03 hb) hb4
          obtain ⟨z0, z1, z2, z3⟩ := hx4.two
          go_wp2_with (fail)
          refine bodyPost_ret (results_cell_tmp rfl _ _ w.heap.size 30 _ (0, 0) _ _ rfl rfl (hx4.set2 _ _) Try.underlying30 rfl (by kernel_rfl)) rfl ?_
          exact ⟨rfl, bl_set (bl_set hb04 (Nat.le_refl _) _) (Nat.le_refl _) _⟩
        · have hkl : j < L.length := by have := HK.out; omega
          have hkl' : (j : Int) < (L.length : Int) := by omega
          obtain ⟨Ak, ck, hk1, hk2⟩ := htb.out.2 j hkl
          have hlr : j < rows.length := by rw [htb.out.1]; exact hkl
          obtain ⟨ba, oa, hA1, hbal, hcel⟩ := (hro.out.later hb).at_ hlr
          have hc0 := hcel j _ hk1
          have hrk := (own_rd (own_call hk2 hb)).1
          have hcho := HCho.out j hkl
          have HTk := Lib.hid (HTS.out j hkl)
          have HCk := HCS.out (bestTo l fs k (L.take j)) (L.getD j [])
          rw [← HTk.out] at HCk
          have HWk := HW Ak (L.getD j []) ck wr hcho (hr.later (bl_call hb03 hb)) (hf.later (bl_call hb03 hb)) hrk
          have HClk := Lib.hid (fun D cap4 w hd => HCl.out D (L.getD j []) cap4 w hcho hd)
          have hwl := HWL.out (L.getD j [])
          rw [hwl] at HClk
          subst hA1
          clear hk1 hk2 hcel hcho hwl HTk hrk hbal
          generalize L.getD j [] = c at *
          generalize withL l fs c = wl at *
          generalize partsL wl.1 = p at *
          generalize hsv : bestTo l fs k (L.take j) = s at *
          generalize hsn : bestTo l fs k (L.take (j + 1)) = sn at *
          have HSN := Lib.hid hsn
          replace HCk := Lib.hid HCk
          clear hsv hsn
          go_wp2_with (fail)
          refine HWk.out.mono ?_
          rintro f w3 ⟨A3, c3, rfl, ho3, hb3⟩
          have hb13 := bl_call hb hb3
          have hx3 := hx.call hb3
          clear hb hx hb3 HWk
          by_cases hck : wl.2 ≤ k
          · have hN := Lib.hid (HCk.out.trans (if_pos hck))
            go_wp2_with (fail)
            refine (HClk.out _ _ _ (own_rd ho3).1).mono ?_
            rintro f w4 ⟨rfl, hb4⟩
            go_wp2_with (fail)
            all_goals
              go_roundg gi
              case rel => exact ⟨j + 1, by have := HK.out; show _ = _; omega, by go_num, by rw [HSN.out, hN.out]; first | rfl | (congr 1; omega), hx3.call hb4, bl_call hb13 hb4⟩
              case measure => omega
          · have hN := Lib.hid (HCk.out.trans (if_neg hck))
            go_wp2_with (fail)
            go_roundg gi
            case rel => exact ⟨j + 1, by have := HK.out; show _ = _; omega, by go_num, by rw [HSN.out, hN.out], hx3, hb13⟩
            case measure => omega
end Go.Proofs.Ytgbjglkiaoplmaa
