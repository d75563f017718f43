/- One pulse behind another one: mathematics alone. One pulse behind another one: what the statement asks of its end and its area. Mathematics alone. -/
import Derived.Test.YtpjdojjdhbmbjaaDelaysW
namespace Go.Proofs.Ytpjdojjdhbmbjaa
open Go.RowKit

theorem j_at (p q : List Int) (k : Nat) : (p ++ q).getD (p.length + k) 0 = q.getD k 0 := by
  simp only [List.getD_eq_getElem?_getD, List.getElem?_append]
  rw [if_neg (by omega), Nat.add_sub_cancel_left]
theorem j_first (p q : List Int) (j : Nat) (h : j < p.length) : (p ++ q).getD j 0 = p.getD j 0 := by
  simp only [List.getD_eq_getElem?_getD, List.getElem?_append]
  rw [if_pos h]
theorem x_left (m : Int) (p q : List Int) : ∀ j, j ≤ p.length → xZ m (p ++ q) j = xZ m p j ∧ aZ m (p ++ q) j = aZ m p j
  | 0, _ => ⟨rfl, rfl⟩
  | j + 1, h => by
    obtain ⟨h1, h2⟩ := x_left m p q j (by omega)
    have hs : sZ m (p ++ q) j = sZ m p j := by rw [sZ, j_first p q j (by omega), sZ]
    exact ⟨by rw [xZ, h1, hs, xZ], by rw [aZ, h1, h2, hs, aZ]⟩
theorem cross_plus_l (a b c : Int × Int) : crossZ (plusZ a b) c = crossZ a c + crossZ b c := by simp only [crossZ, plusZ, Int.add_mul]; omega
theorem cross_plus_r (a b c : Int × Int) : crossZ a (plusZ b c) = crossZ a b + crossZ a c := by simp only [crossZ, plusZ, Int.mul_add]; omega
theorem x_join (m : Int) (p q : List Int) : ∀ k, xZ m (p ++ q) (p.length + k) = plusZ (xZ m p p.length) (tN m p.length (xZ m q k)) ∧
    aZ m (p ++ q) (p.length + k) = aZ m p p.length + aZ m q k + crossZ (xZ m p p.length) (tN m p.length (xZ m q k))
  | 0 => by
    obtain ⟨h1, h2⟩ := x_left m p q p.length (Nat.le_refl _)
    refine ⟨?_, ?_⟩
    · rw [Nat.add_zero, h1, xZ, tN_zero]; simp [plusZ]
    · rw [Nat.add_zero, h2, xZ, tN_zero, aZ]; simp [crossZ]
  | k + 1 => by
    obtain ⟨h1, h2⟩ := x_join m p q k
    have hs : sZ m (p ++ q) (p.length + k) = tN m p.length (sZ m q k) := by rw [sZ, j_at, way_add, sZ, tN_tm]
    refine ⟨?_, ?_⟩
    · rw [← Nat.add_assoc, xZ, h1, hs, xZ, tN_plus, plus_assoc]
    · rw [← Nat.add_assoc, aZ, h1, h2, hs, cross_plus_l, cross_tN, xZ, tN_plus, cross_plus_r, aZ]; omega
end Go.Proofs.Ytpjdojjdhbmbjaa
namespace Go.Proofs.Ytpjdojjdhbmbjaa
open Go.RowKit

theorem as_sum (a : Int × Int) : a = plusZ (timesZ a.1 (1, 0)) (timesZ a.2 (0, 1)) := by
  simp [plusZ, timesZ]
theorem turn_by (q : Int) (a : Int × Int) : turnZ q a = plusZ (timesZ a.1 (turnZ q (1, 0))) (timesZ a.2 (turnZ q (0, 1))) := by
  rw [← turn_tm, ← turn_tm, ← turn_plus, ← as_sum]
theorem tN_by (m : Int) (n : Nat) (a : Int × Int) : tN m n a = plusZ (timesZ a.1 (tN m n (1, 0))) (timesZ a.2 (tN m n (0, 1))) := by
  rw [← tN_tm, ← tN_tm, ← tN_plus, ← as_sum]
theorem turn_n (m : Int) (k : Nat) (hm : 0 ≤ m ∧ m ≤ 3) (hk : k ≤ 12) (a : Int × Int) : turnZ (wrap64 (m * k)) a = tN m k a := by
  obtain ⟨n, rfl⟩ := Int.eq_ofNat_of_zero_le hm.1
  have h : ∀ n : Fin 4, ∀ k : Fin 13, turnZ (wrap64 ((n.val : Int) * (k.val : Int))) (1, 0) = tN (n.val : Int) k.val (1, 0) ∧ turnZ (wrap64 ((n.val : Int) * (k.val : Int))) (0, 1) = tN (n.val : Int) k.val (0, 1) := by decide +kernel
  obtain ⟨h1, h2⟩ := h ⟨n, by omega⟩ ⟨k, by omega⟩
  rw [turn_by, tN_by]
  exact (congrArg (fun x => plusZ (timesZ a.1 x) (timesZ a.2 (turnZ (wrap64 ((n : Int) * k)) (0, 1)))) h1).trans (congrArg (fun y => plusZ (timesZ a.1 (tN (n : Int) k (1, 0))) (timesZ a.2 y)) h2)

theorem jo_at {p q : List Int} (h : joE p q = 0) : validE p = 0 ∧ validE q = 0 ∧ p.length + q.length ≤ 12 ∧ joL p q = p ++ q ∧ validE (p ++ q) = 0 := by
  unfold joE at h
  by_cases hb : bothE p q = 0
  · rw [if_pos hb] at h
    unfold catE at h
    by_cases hl : 12 < p.length + q.length
    · rw [if_pos hl] at h; cases h
    · obtain ⟨hp, hq⟩ := bothE_zero hb
      refine ⟨hp, hq, by omega, by rw [joL, if_pos hb, catL, if_neg hl], ?_⟩
      have hf : ∀ {r : List Int}, validE r = 0 → forces r = true := fun {r} hr => by
        have hrl := validE_len hr
        unfold validE at hr
        rw [if_pos hrl] at hr
        by_cases hf : forces r = true
        · exact hf
        · rw [if_neg hf] at hr; cases hr
      have h1 := hf hp
      have h2 := hf hq
      rw [validE, if_pos (by rw [List.length_append]; omega), if_pos]
      unfold forces at h1 h2 ⊢
      rw [List.all_append, h1, h2]; rfl
  · rw [if_neg hb] at h; exact absurd h hb
theorem joL_len (p q : List Int) : (joL p q).length ≤ 12 := by
  by_cases h : joE p q = 0
  · obtain ⟨_, _, h3, h4, _⟩ := jo_at h
    rw [h4, List.length_append]; exact h3
  · unfold joL
    unfold joE at h
    by_cases hb : bothE p q = 0
    · rw [if_pos hb] at h ⊢
      unfold catE at h
      unfold catL
      by_cases hl : 12 < p.length + q.length
      · rw [if_pos hl]; exact Nat.zero_le _
      · rw [if_neg hl] at h; exact absurd rfl h
    · rw [if_neg hb]; exact Nat.zero_le _
theorem area_zero_l {a b : Int × Int} (h : W2 a = (0, 0)) : wrap64 (crossZ a b) = 0 := by rw [← cross_w, h]; simp [crossW, wrap64]
theorem area_zero_r {a b : Int × Int} (h : W2 b = (0, 0)) : wrap64 (crossZ a b) = 0 := by rw [← cross_w, h]; simp [crossW, wrap64]
theorem join_facts {p q : List Int} (m : Int) (h : joE p q = 0) : inE q m = inE p m ∧ inE (joL p q) m = inE p m ∧
    (inE p m = 0 → endG (joL p q) m = plusW (endG p m) (turnW (wrap64 (m * p.length)) (endG q m)) ∧ ((endG p m = (0, 0) ∨ endG q m = (0, 0)) → areaG (joL p q) m = wrap64 (areaG p m + areaG q m))) := by
  obtain ⟨hp, hq, hl, hL, hv⟩ := jo_at h
  rw [hL]
  have e1 : inE q m = inE p m := by rw [inE, inE, if_pos hp, if_pos hq]
  have e2 : inE (p ++ q) m = inE p m := by rw [inE, inE, if_pos hp, if_pos hv]
  refine ⟨e1, e2, fun hi => ?_⟩
  have ok := ok_of hi
  have hE : ∀ {r : List Int}, inE r m = 0 → endG r m = W2 (xZ m r r.length) := fun {r} h => by rw [endG, if_pos h, lastP_path, ptAt_z]
  have hA : ∀ {r : List Int}, inE r m = 0 → areaG r m = wrap64 (aZ m r r.length) := fun {r} h => by rw [areaG, if_pos h, area_z]
  obtain ⟨hx, ha⟩ := x_join m p q q.length
  rw [hE hi, hE (e1.trans hi), hE (e2.trans hi), hA hi, hA (e1.trans hi), hA (e2.trans hi), List.length_append, hx, ha]
  refine ⟨by rw [turn_w, turn_n m p.length ok.mode ok.len, plus_w], fun hz => ?_⟩
  have hc : wrap64 (crossZ (xZ m p p.length) (tN m p.length (xZ m q q.length))) = 0 := by
    rcases hz with hz | hz
    · exact area_zero_l hz
    · exact area_zero_r ((tN_z m _ _).2 hz)
  rw [w_add_l, w_add_r, ← w_add_r, hc, Int.add_zero]
end Go.Proofs.Ytpjdojjdhbmbjaa
