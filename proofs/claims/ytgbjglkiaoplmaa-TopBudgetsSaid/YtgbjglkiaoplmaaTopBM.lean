/- Totals, shares and choices of one budget: they agree. -/
import Derived.Test.YtgbjglkiaoplmaaKno
import Derived.Test.YtgbjglkiaoplmaaWst
import Derived.Test.YtgbjglkiaoplmaaTtl
import Derived.Test.YtgbjglkiaoplmaaShr
import Derived.Test.YtgbjglkiaoplmaaAlw
import Derived.Test.YtgbjglkiaoplmaaRom
import Derived.Test.YtgbjglkiaoplmaaBst
import Derived.Test.YtgbjglkiaoplmaaWtc
namespace Go.Proofs.Ytgbjglkiaoplmaa
open Go.RowKit

theorem tot_facts {l : List It} (h : valE l = 0) : totG l = rat (partsL l) ∧ (0 ≤ (rat (partsL l)).1 ∧ (rat (partsL l)).1 ≤ 120960) ∧ 0 < (rat (partsL l)).2 ∧ (rat (partsL l)).2 ≤ 2520 := by
  have hb := parts_bound h
  have hn := rat_num hb.1
  exact ⟨by unfold totG; rw [if_pos h], ⟨hn.1, by omega⟩, rat_den _⟩
structure FairP (p : Int × Int) : Prop where
  d0 : 0 < p.2
  d1 : p.2 ≤ 2520
  n0 : 0 ≤ p.1
  n1 : p.1 ≤ 120960
theorem parts_mono {m : Int} {l : List It} (hm : 0 ≤ m) (h : OkIs m l) : ∀ j k, k ≤ j → j ≤ l.length → partsTo l k ≤ partsTo l j
  | 0, k, hk, _ => by rw [show k = 0 by omega]; exact Int.le_refl _
  | j + 1, k, hk, hj => by
    rcases Nat.lt_or_ge k (j + 1) with h' | h'
    · have := parts_mono hm h j k (by omega) (by omega)
      have := ((h j (by omega)).share hm).1
      rw [partsTo]; omega
    · rw [show k = j + 1 by omega]; exact Int.le_refl _
theorem share_parts {l : List It} (h : valE l = 0) {k : Nat} (hk : k < l.length) : 0 ≤ shareP (l.getD k it0) ∧ shareP (l.getD k it0) ≤ partsL l ∧ partsL l ≤ 120960 := by
  have hok := val_ok h
  have h1 := parts_mono (by decide) hok l.length (k + 1) hk (Nat.le_refl _)
  have h2 := (parts_in (by decide) hok k (by omega)).1
  have h3 := (hok k hk).share (by decide)
  rw [partsTo] at h1
  refine ⟨h3.1, ?_, (parts_bound h).2⟩
  unfold partsL; omega
theorem fair_rat {p : Int} (h : 0 ≤ p ∧ p ≤ 120960) : FairP (rat p) := by
  have h1 := rat_num h.1
  have h2 := rat_den p
  exact ⟨h2.1, h2.2, h1.1, by omega⟩
theorem shrL_len (l : List It) : (shrL l).length ≤ l.length := by unfold shrL; split <;> simp [shrF_len]
theorem bstE_ok {l : List It} {fs : List Fx} {k : Int} (h : bstE l fs k = 0) : vfE l fs = 0 ∧ 0 ≤ k ∧ k ≤ 792 := by
  unfold bstE at h
  split at h
  · rename_i h0
    split at h
    · rename_i h1; exact ⟨h0, h1.1, h1.2⟩
    · cases h
  · rename_i h0; exact absurd h h0
theorem best_bound {l : List It} {fs : List Fx} {k : Int} (h : vfE l fs = 0) (hk : 0 ≤ k) : 0 ≤ bestL l fs k ∧ bestL l fs k ≤ 120960 := by
  have h1 := best_in h hk
  have h2 := parts_bound (vfE_ok h).1
  omega
theorem fair_lim {p : Int × Int} (h : FairP p) : limB p.1 p.2 = true := by
  have := h.d0; have := h.d1; have := h.n0; have := h.n1
  exact limB_iff.2 ⟨by omega, by omega, by omega, by omega⟩
theorem best_fair {l : List It} {fs : List Fx} {k : Int} (h : bstE l fs k = 0) : FairP (bstG l fs k) := by
  obtain ⟨h1, h2, h3⟩ := bstE_ok h
  unfold bstG; rw [if_pos h]
  exact fair_rat (best_bound h1 h2)
theorem wt_facts {l : List It} {fs : List Fx} {c : List Int} (h : wtE l fs c = 0) : valE l = 0 ∧ valE (wtL l fs c) = 0 ∧ FairP (totG l) ∧ FairP (totG (wtL l fs c)) ∧ (totG (wtL l fs c)).1 * (totG l).2 ≤ (totG l).1 * (totG (wtL l fs c)).2 := by
  have hL : wtL l fs c = (withL l fs c).1 := by unfold wtL; rw [if_pos h]
  rw [hL]
  unfold wtE at h
  split at h
  · rename_i hv
    have hc := cho_iff.1 h
    have h1 := (vfE_ok hv).1
    obtain ⟨g1, g2, _⟩ := with_ok hv hc
    refine ⟨h1, g1, by rw [(tot_facts h1).1]; exact fair_rat (parts_bound h1), by rw [(tot_facts g1).1]; exact fair_rat (parts_bound g1), ?_⟩
    rw [(tot_facts h1).1, (tot_facts g1).1]
    have := rat_lt (partsL l) (partsL (withL l fs c).1)
    omega
  · rename_i hv; exact absurd h hv
theorem wtL_len (l : List It) (fs : List Fx) (c : List Int) : (wtL l fs c).length ≤ l.length := by
  unfold wtL; split
  · rw [withL_len]; exact Nat.le_refl _
  · simp
theorem cheap_facts {l : List It} {fs : List Fx} {m e : Int} (h : chB l fs m e = true) : byE l fs m e = 0 ∧ ckE l fs m e (chC l fs m e) = 0 ∧ ckK l fs m e (chC l fs m e) = chK l fs m e := by
  unfold chB at h
  split at h
  · rename_i hby
    obtain ⟨h1, h2⟩ := byE_ok hby
    have hn8 := (vfE_ok h1).2.1
    rcases hco : cheapO l fs m e with _ | o
    · rw [(chp_none hco).2.2] at h; cases h
    · obtain ⟨g1, g2, g3⟩ := chp_some hco
      have hC := cheap_o hn8 hco
      have e1 : chC l fs m e = o.c := by unfold chC; rw [if_pos hby, g1]
      have e2 : chK l fs m e = o.k := by unfold chK; rw [if_pos hby, g2]
      have e3 : ckE l fs m e o.c = 0 := by unfold ckE; rw [if_pos hby, if_pos (cho_iff.2 hC.cho), if_pos hC.close]
      rw [e1, e2]
      refine ⟨hby, e3, ?_⟩
      unfold ckK; rw [if_pos e3]; exact hC.cost.symm
  · cases h
theorem cheap_no {l : List It} {fs : List Fx} {m e : Int} (h : chB l fs m e = false) : chC l fs m e = [] := by
  unfold chB at h
  split at h
  · rename_i hby
    rcases hco : cheapO l fs m e with _ | o
    · unfold chC; rw [if_pos hby, (chp_none hco).1]
    · rw [(chp_some hco).2.2] at h; cases h
  · rename_i hby; unfold chC; rw [if_neg hby]
theorem chC_len (l : List It) (fs : List Fx) (m e : Int) : (chC l fs m e).length ≤ 8 := by
  unfold chC
  split
  · rename_i hby
    have hn8 := (vfE_ok (byE_ok hby).1).2.1
    rcases hco : cheapO l fs m e with _ | o
    · rw [(chp_none hco).1]; simp
    · rw [(chp_some hco).1]; exact Nat.le_trans (cho_len (cheap_o hn8 hco).cho hn8) (by omega)
  · simp
def PL (l : List It) : List Int := l.map shareP
theorem PL_len (l : List It) : (PL l).length = l.length := List.length_map _
theorem PL_get {l : List It} {k : Nat} (hk : k < l.length) : (PL l).getD k 0 = shareP (l.getD k it0) := by simp [PL, hk]
theorem PL_sum {l : List It} : ∀ k, k ≤ l.length → sumTo (PL l) k = partsTo l k
  | 0, _ => rfl
  | k + 1, h => by rw [sumTo, partsTo, PL_sum k (by omega), PL_get (by omega)]
theorem sum_set {ps : List Int} {k : Nat} (hk : k < ps.length) (x : Int) : ∀ j, sumTo (ps.set k x) j = sumTo ps j + if k < j then x - ps.getD k 0 else 0
  | 0 => by simp [sumTo]
  | j + 1 => by
    rw [sumTo, sumTo, sum_set hk x j]
    by_cases h : j = k
    · subst h
      have e : (ps.set j x).getD j 0 = x := by simp [hk]
      rw [e, if_neg (by omega), if_pos (by omega)]; omega
    · have hne : k ≠ j := fun e => h e.symm
      have e : (ps.set k x).getD j 0 = ps.getD j 0 := by simp [List.getD_eq_getElem?_getD, List.getElem?_set_ne hne]
      rw [e]
      by_cases h2 : k < j
      · rw [if_pos h2, if_pos (by omega)]; omega
      · rw [if_neg h2, if_neg (by omega)]; omega
theorem top_share (p : Int) : (rat p).1 * (2520 / (rat p).2) = p := by
  obtain ⟨g, hg, h1, h2⟩ := low_gcd (n := p) (d := 2520) (by decide)
  have hd := (rat_den p).1
  have e : (2520 : Int) / (rat p).2 = g := by
    rw [show (2520 : Int) = (rat p).2 * g from h2.symm]
    exact Int.mul_ediv_cancel_left _ (by omega)
  rw [e]; exact h1
theorem top_total {l : List It} (hv : valE l = 0) : FairP (totG l) ∧ clsE l (totG l).1 (totG l).2 = 0 ∧ clsG l (totG l).1 (totG l).2 = true ∧ partsL l * (totG l).2 = (totG l).1 * 2520 ∧
    (0 < (totG l).1 → clsE l ((totG l).1 - 1) (totG l).2 = 0 ∧ clsG l ((totG l).1 - 1) (totG l).2 = false) := by
  have hf := fair_rat (parts_bound hv)
  have hc := rat_cross (partsL l)
  rw [(tot_facts hv).1]
  generalize rat (partsL l) = t at *
  have hE : clsE l t.1 t.2 = 0 := by unfold clsE; rw [if_pos hv, if_pos (fair_lim hf)]
  refine ⟨hf, hE, ?_, hc.symm, fun h => ?_⟩
  · unfold clsG closeB; rw [if_pos hE, decide_eq_true_eq]; omega
  · have hL : limB (t.1 - 1) t.2 = true := limB_iff.2 ⟨hf.d0, by have := hf.d1; omega, by omega, by have := hf.n1; omega⟩
    have hE2 : clsE l (t.1 - 1) t.2 = 0 := by unfold clsE; rw [if_pos hv, if_pos hL]
    refine ⟨hE2, ?_⟩
    unfold clsG closeB; rw [if_pos hE2, decide_eq_false_iff_not, Int.sub_mul]; omega
theorem top_lim {l : List It} (hv : valE l = 0) : limB (partsL l) 2520 = true := by
  have := parts_bound hv
  exact limB_iff.2 ⟨by decide, by decide, this.1, by omega⟩
theorem top_allow {l : List It} (hv : valE l = 0) : alwE l (partsL l) 2520 (PL l) = 0 := by
  have hE : clsE l (partsL l) 2520 = 0 := by unfold clsE; rw [if_pos hv, if_pos (top_lim hv)]
  refine alw_6 hE (PL_len l) (fun k hk => ?_) ?_ fun k hk => ?_
  · rw [PL_len] at hk
    have := share_parts hv hk
    unfold prB inB
    rw [PL_get hk, Bool.and_eq_true, decide_eq_true_eq, decide_eq_true_eq]; omega
  · rw [PL_len, PL_sum _ (Nat.le_refl _)]; exact Int.le_refl _
  · unfold shB shK; rw [PL_get hk, decide_eq_true_eq]; exact Int.le_refl _
theorem top_less {l : List It} (hv : valE l = 0) {k : Nat} (hk : k < l.length) (hp : 0 < shareP (l.getD k it0)) : alwE l (partsL l) 2520 ((PL l).set k (shareP (l.getD k it0) - 1)) = 8 := by
  have hE : clsE l (partsL l) 2520 = 0 := by unfold clsE; rw [if_pos hv, if_pos (top_lim hv)]
  have hkP : k < (PL l).length := by rw [PL_len]; exact hk
  have e : ((PL l).set k (shareP (l.getD k it0) - 1)).getD k 0 = shareP (l.getD k it0) - 1 := by simp [hkP]
  refine alw_5 hE (by rw [List.length_set, PL_len]) (fun j hj => ?_) ?_ hk ?_
  · rw [List.length_set, PL_len] at hj
    unfold prB inB
    rw [Bool.and_eq_true, decide_eq_true_eq, decide_eq_true_eq]
    by_cases h : j = k
    · subst h
      have := share_parts hv hk
      rw [e]; omega
    · have hne : k ≠ j := fun e => h e.symm
      have e : ((PL l).set k (shareP (l.getD k it0) - 1)).getD j 0 = (PL l).getD j 0 := by simp [List.getD_eq_getElem?_getD, List.getElem?_set_ne hne]
      have := share_parts hv hj
      rw [e, PL_get hj]; omega
  · rw [List.length_set, sum_set hkP, if_pos hkP, PL_get hk, PL_len, PL_sum _ (Nat.le_refl _)]
    unfold partsL; omega
  · unfold shB shK
    rw [e, decide_eq_false_iff_not]; omega
theorem top_room {l : List It} (hv : valE l = 0) {k : Nat} (hk : k < l.length) (hp : 0 < shareP (l.getD k it0)) : rmE l (partsL l) 2520 k = 0 ∧ ∀ n i : Nat, (k : Int) = (i : Int) → IsRoom l i (partsL l) 2520 n → n = 0 := by
  constructor
  · have h1 : witE l k = 0 := by unfold witE; rw [if_pos hv, if_pos (by omega)]
    unfold rmE
    rw [if_pos h1, if_pos (top_lim hv), if_pos (by unfold closeB; rw [decide_eq_true_eq]; exact Int.le_refl _)]
  · intro n i hi h
    obtain rfl : k = i := by omega
    rcases Nat.eq_zero_or_pos n with h0 | h0
    · exact h0
    · have h1 := h.pre 0 h0
      unfold gwB closeB at h1
      rw [decide_eq_true_eq] at h1
      unfold partsL at h1
      rw [grw_len, grw_parts hk, if_pos hk] at h1
      have hu := (itB_iff.1 ((valE_ok hv).2 k hk))
      have hpp : 0 < part (l.getD k it0).n (l.getD k it0).d := by
        rcases Int.lt_or_le 0 (part (l.getD k it0).n (l.getD k it0).d) with h2 | h2
        · exact h2
        · have h3 : (l.getD k it0).u * part (l.getD k it0).n (l.getD k it0).d ≤ 0 := Int.mul_nonpos_of_nonneg_of_nonpos (by omega) h2
          unfold shareP at hp; omega
      omega
/-- Where no choice closes the budget. -/
theorem top_no {l : List It} {fs : List Fx} {m e : Int} (hby : byE l fs m e = 0) (h : chB l fs m e = false) : bstE l fs 792 = 0 ∧ FairP (bstG l fs 792) ∧ 0 < (bstG l fs 792).1 ∧ m * (bstG l fs 792).2 < (bstG l fs 792).1 * e ∧ clsE l m e = 0 ∧ clsG l m e = false := by
  obtain ⟨h1, h2⟩ := byE_ok hby
  have hn8 := (vfE_ok h1).2.1
  have hE : bstE l fs 792 = 0 := by unfold bstE; rw [if_pos h1, if_pos (by decide)]
  have hG : bstG l fs 792 = rat (bestL l fs 792) := by unfold bstG; rw [if_pos hE]
  have hf := best_fair hE
  have hco : cheapO l fs m e = none := by
    rcases hco : cheapO l fs m e with _ | o
    · rfl
    · unfold chB at h; rw [if_pos hby, (chp_some hco).2.2] at h; cases h
  obtain ⟨c, hc, _, hc2⟩ := best_at (l := l) (fs := fs) (k := 792) (by decide)
  have h3 := cheap_o_none hn8 hco hc
  unfold closeB at h3
  rw [decide_eq_false_iff_not, hc2] at h3
  have h4 : m * (bstG l fs 792).2 < (bstG l fs 792).1 * e := by rw [hG]; exact lim_lt.2 (by omega)
  have hl := limB_iff.1 h2
  have hcE : clsE l m e = 0 := by unfold clsE; rw [if_pos (vfE_ok h1).1, if_pos h2]
  refine ⟨hE, hf, ?_, h4, hcE, ?_⟩
  · rcases Int.lt_or_le 0 (bstG l fs 792).1 with h5 | h5
    · exact h5
    · have h6 : (bstG l fs 792).1 * e ≤ 0 := Int.mul_nonpos_of_nonpos_of_nonneg h5 (by omega)
      have h7 : 0 ≤ m * (bstG l fs 792).2 := Int.mul_nonneg (by omega) (by have := hf.d0; omega)
      omega
  · have h8 := cheap_o_none hn8 hco (cho_nil fs)
    rw [withL_nil] at h8
    unfold clsG; rw [if_pos hcE]; exact h8
/-- Where the cheapest choice closes it. -/
theorem top_yes {l : List It} {fs : List Fx} {m e : Int} (h : chB l fs m e = true) : (wtE l fs (chC l fs m e) = 0 ∧ wtK l fs (chC l fs m e) = chK l fs m e) ∧ (clsE (wtL l fs (chC l fs m e)) m e = 0 ∧ clsG (wtL l fs (chC l fs m e)) m e = true) ∧
    bstE l fs (chK l fs m e) = 0 ∧ FairP (bstG l fs (chK l fs m e)) ∧ (bstG l fs (chK l fs m e)).1 * e ≤ m * (bstG l fs (chK l fs m e)).2 ∧ clsE l m e = 0 ∧ clsG l m e = (decide (chK l fs m e = 0) && decide ((chC l fs m e).length = 0)) := by
  unfold chB at h
  split at h
  rotate_left
  · cases h
  rename_i hby
  obtain ⟨h1, h2⟩ := byE_ok hby
  have hn8 := (vfE_ok h1).2.1
  rcases hco : cheapO l fs m e with _ | o
  · rw [(chp_none hco).2.2] at h; cases h
  obtain ⟨g1, g2, g3⟩ := chp_some hco
  have hC := cheap_o hn8 hco
  have e1 : chC l fs m e = o.c := by unfold chC; rw [if_pos hby, g1]
  have e2 : chK l fs m e = o.k := by unfold chK; rw [if_pos hby, g2]
  rw [e1, e2]
  have hco0 := cho_iff.2 hC.cho
  have w1 : wtE l fs o.c = 0 := by unfold wtE; rw [if_pos h1]; exact hco0
  have w2 : wtL l fs o.c = (withL l fs o.c).1 := by unfold wtL; rw [if_pos w1]
  have w3 : wtK l fs o.c = o.k := by unfold wtK; rw [if_pos w1]; exact hC.cost.symm
  have w4 := (wt_facts w1).2.1
  have c1 : clsE (wtL l fs o.c) m e = 0 := by unfold clsE; rw [if_pos w4, if_pos h2]
  have c2 : clsG (wtL l fs o.c) m e = true := by unfold clsG; rw [if_pos c1, w2]; exact hC.close
  have hcE : clsE l m e = 0 := by unfold clsE; rw [if_pos (vfE_ok h1).1, if_pos h2]
  have hkb : 0 ≤ o.k ∧ o.k ≤ 792 := by
    obtain ⟨x, hx, hxc⟩ := chos_all hn8 hC.cho
    have h3 := (with_bet h1 (chos_asc_ok hx) (chosTo x 8).length (Nat.le_refl _)).2
    have h4 := cho_len hC.cho hn8
    rw [hxc] at h3
    rw [hC.cost]
    show 0 ≤ (withTo l fs o.c o.c.length).2 ∧ (withTo l fs o.c o.c.length).2 ≤ 792
    omega
  have hE : bstE l fs o.k = 0 := by unfold bstE; rw [if_pos h1, if_pos hkb]
  have hG : bstG l fs o.k = rat (bestL l fs o.k) := by unfold bstG; rw [if_pos hE]
  have hle := (best_le (l := l) (fs := fs) (k := o.k) (m := bestL l fs o.k) hkb.1).1 (Int.le_refl _) o.c hC.cho (by rw [← hC.cost]; exact Int.le_refl _)
  have hcl := hC.close
  unfold closeB at hcl
  rw [decide_eq_true_eq] at hcl
  have hl := limB_iff.1 h2
  have hm := Int.mul_le_mul_of_nonneg_right hle (show 0 ≤ e by omega)
  refine ⟨⟨w1, w3⟩, ⟨c1, c2⟩, hE, best_fair hE, ?_, hcE, ?_⟩
  · rw [hG]
    have := (lim_lt (m := m) (e := e) (p := bestL l fs o.k)).1
    rcases Int.lt_or_le (m * (rat (bestL l fs o.k)).2) ((rat (bestL l fs o.k)).1 * e) with h5 | h5
    · have := this h5; omega
    · exact h5
  · unfold clsG
    rw [if_pos hcE]
    cases hz : closeB l m e with
    | true =>
      have h5 := hC.least [] (cho_nil fs) hz
      rw [withL_nil] at h5
      have h6 : o.k = 0 := by
        have := hC.le (cho_nil fs) hz
        rw [withL_nil] at this
        have h7 : o.k ≤ 0 := this
        omega
      have h7 : o.c.length = 0 := by
        rcases hoc : o.c with _ | ⟨a, t⟩
        · rfl
        · rw [hoc, h6] at h5
          simp [ltL] at h5
      simp [h6, h7]
    | false =>
      rcases Nat.eq_zero_or_pos o.c.length with h5 | h5
      · have h6 : o.c = [] := List.eq_nil_of_length_eq_zero h5
        have h7 := hC.close
        rw [h6, withL_nil] at h7
        have h8 : closeB l m e = true := h7
        rw [hz] at h8; cases h8
      · rw [decide_eq_false (p := o.c.length = 0) (by omega), Bool.and_false]
end Go.Proofs.Ytgbjglkiaoplmaa
