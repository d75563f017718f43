/- What the statement on all of layer 1 asks: mathematics alone. -/
import Derived.Test.YtpjdojjdhbmbjaaJoinF
import Derived.Test.YtpjdojjdhbmbjaaBacksW
import Derived.Test.YtpjdojjdhbmbjaaFindW
import Derived.Test.YtpjdojjdhbmbjaaPath
namespace Go.Proofs.Ytpjdojjdhbmbjaa
open Go.RowKit

theorem mem_modesT {p : List Int} {B : Int → Bool} {k : Nat} (hv : validE p = 0) (hk : k < 4) : decide ((k : Int) ∈ modesG p B) = B k := by
  rw [modesG, if_pos hv, Bool.eq_iff_iff, decide_eq_true_iff]
  simp only [modesF, List.mem_filter, List.mem_map, List.mem_range]
  exact ⟨fun h => h.2, fun h => ⟨⟨k, hk, rfl⟩, h⟩⟩
theorem inE_nat {p : List Int} (hv : validE p = 0) {k : Nat} (hk : k < 4) : inE p k = 0 := by
  rw [inE, if_pos hv, if_pos]; exact inB_z.2 (by omega)
theorem path_last {p : List Int} {m : Int} : (pathL m p).getD p.length (0, 0) = lastP (pathL m p) := by
  rw [lastP, List.getLast?_eq_getElem?, pathL_len, Nat.add_sub_cancel, List.getD_eq_getElem?_getD]
theorem way_even (k : Nat) (m : Int) (hm : m = 0 ∨ m = 2) : (wayZ m k).2 = 0 := by
  obtain ⟨q0, _, q2, _⟩ := quad_m
  induction k with
  | zero => rfl
  | succ k ih =>
    rw [wayZ]
    rcases hm with rfl | rfl
    · simp [turnZ, q0, ih]
    · simp [turnZ, q2, ih]
theorem x_even (m : Int) (hm : m = 0 ∨ m = 2) (p : List Int) : ∀ k, (xZ m p k).2 = 0
  | 0 => rfl
  | k + 1 => by rw [xZ]; simp [plusZ, sZ, timesZ, x_even m hm p k, way_even k m hm]
theorem a_even (m : Int) (hm : m = 0 ∨ m = 2) (p : List Int) : ∀ k, aZ m p k = 0
  | 0 => rfl
  | k + 1 => by rw [aZ, a_even m hm p k]; simp [crossZ, x_even m hm p k, sZ, timesZ, way_even k m hm]
/-- What holds of a right pulse in a mode. -/
theorem top_one {p : List Int} (hv : validE p = 0) {k : Nat} (hk : k < 4) :
    inE p k = 0 ∧ (pathG p k).length = p.length + 1 ∧ (pathG p k).getD p.length (0, 0) = endG p k ∧ (k % 2 = 0 → areaG p k = 0) ∧ inE (backL p) k = 0 ∧ areaG (backL p) k = areaG p k := by
  have hi := inE_nat hv hk
  obtain ⟨_, _, h3, h4⟩ := back_facts (k : Int) hv
  refine ⟨hi, by rw [pathG, if_pos hi, pathL_len], by rw [pathG, if_pos hi, endG, if_pos hi, path_last], fun he => ?_, by rw [h3, hi], h4⟩
  rw [areaG, if_pos hi, area_z, a_even (k : Int) (by omega)]; simp [wrap64]
theorem end_closed {p : List Int} (hv : validE p = 0) {k : Nat} (hk : k < 4) (h : closedB p k = true) : endG p k = (0, 0) := by
  rw [endG, if_pos (inE_nat hv hk)]; exact beq_iff_eq.1 h
/-- What holds of one pulse behind another one. -/
theorem top_two {p q : List Int} (h : joE p q = 0) {k : Nat} (hk : k < 4) :
    inE q k = 0 ∧ inE (joL p q) k = 0 ∧ validE (joL p q) = 0 ∧ ((closedB p k || closedB q k) = true → areaG (joL p q) k = wrap64 (areaG p k + areaG q k)) ∧ (closedB p k = true → closedB (joL p q) k = closedB q k) := by
  obtain ⟨hp, hq, hl, hL, hv⟩ := jo_at h
  obtain ⟨h1, h2, h3⟩ := join_facts (k : Int) h
  have hi := inE_nat hp hk
  refine ⟨by rw [h1, hi], by rw [h2, hi], by rw [hL]; exact hv, fun hc => (h3 hi).2 ?_, fun hc => ?_⟩
  · rcases Bool.or_eq_true_iff.1 hc with hc | hc
    · exact .inl (end_closed hp hk hc)
    · exact .inr (end_closed hq hk hc)
  · have hx := (x_join (k : Int) p q q.length).1
    rw [closedB_z, beq_iff_eq] at hc
    rw [hL, closedB_z, closedB_z, List.length_append, hx, Bool.eq_iff_iff, beq_iff_eq, beq_iff_eq, ← plus_w, hc]
    have e : plusW (0, 0) (W2 (tN (k : Int) p.length (xZ (k : Int) q q.length))) = W2 (tN (k : Int) p.length (xZ (k : Int) q q.length)) := by
      simp only [plusW, W2, Int.zero_add, w_w]
    rw [e, tN_z]

/-! The opposite areas: every other force turned round. -/
def altL : List Int → List Int
  | [] => []
  | x :: t => x :: (altL t).map (-·)
theorem altL_length : ∀ p, (altL p).length = p.length
  | [] => rfl
  | x :: t => by simp [altL, altL_length t]
def sgn (k : Nat) : Int := if k % 2 = 0 then 1 else -1
theorem sgn_succ (k : Nat) : sgn (k + 1) = -sgn k := by
  unfold sgn
  by_cases h : k % 2 = 0
  · rw [if_pos h, if_neg (by omega)]
  · rw [if_neg h, if_pos (by omega)]; rfl
theorem altL_get : ∀ (p : List Int) (k : Nat), (altL p).getD k 0 = sgn k * p.getD k 0
  | [], k => by simp [altL]
  | x :: t, 0 => by simp [altL, sgn]
  | x :: t, k + 1 => by
    have h := altL_get t k
    rw [sgn_succ, Int.neg_mul]
    simp only [List.getD_eq_getElem?_getD, altL, List.getElem?_cons_succ, List.getElem?_map] at h ⊢
    rw [← h]
    cases (altL t)[k]? <;> simp
theorem way_odd (m : Int) (hm : m = 1 ∨ m = 3) : ∀ k, timesZ (sgn k) (wayZ m k) = conj (wayZ m k)
  | 0 => rfl
  | k + 1 => by
    obtain ⟨_, q1, _, q3⟩ := quad_m
    have ih := way_odd m hm k
    rw [wayZ, sgn_succ]
    generalize wayZ m k = a at ih
    obtain ⟨x, y⟩ := a
    simp only [timesZ, conj, Prod.mk.injEq] at ih
    obtain ⟨i1, i2⟩ := ih
    rcases hm with rfl | rfl
    · simp only [turnZ, q1, timesZ, conj, beq_self_eq_true, if_true, Int.neg_mul, Int.mul_neg, i1, i2, Int.neg_neg]
    · simp [turnZ, q3, timesZ, conj, Int.neg_mul, Int.mul_neg, i1, i2]
theorem s_odd (m : Int) (hm : m = 1 ∨ m = 3) (p : List Int) (k : Nat) : sZ m (altL p) k = conj (sZ m p k) := by
  have h := way_odd m hm k
  rw [sZ, altL_get, sZ]
  simp only [timesZ, conj, Prod.mk.injEq] at h ⊢
  obtain ⟨h1, h2⟩ := h
  refine ⟨?_, ?_⟩
  · rw [Int.mul_comm (sgn k), Int.mul_assoc, h1]
  · rw [Int.mul_comm (sgn k), Int.mul_assoc, h2, Int.mul_neg]
theorem x_odd (m : Int) (hm : m = 1 ∨ m = 3) (p : List Int) : ∀ k, xZ m (altL p) k = conj (xZ m p k)
  | 0 => rfl
  | k + 1 => by rw [xZ, x_odd m hm p k, s_odd m hm, ← conj_plus, xZ]
theorem a_odd (m : Int) (hm : m = 1 ∨ m = 3) (p : List Int) : ∀ k, aZ m (altL p) k = -aZ m p k
  | 0 => rfl
  | k + 1 => by rw [aZ, a_odd m hm p k, x_odd m hm, s_odd m hm]; simp only [crossZ, conj, aZ, Int.mul_neg, Int.neg_mul]; omega
theorem pulse_mem {f : Nat} : ∀ (x : List Int), (∀ k, -(f : Int) ≤ x.getD k 0 ∧ x.getD k 0 ≤ f) → x ∈ pulsesL f x.length := by
  intro x
  suffices h : ∀ n (x : List Int), x.length = n → (∀ k, -(f : Int) ≤ x.getD k 0 ∧ x.getD k 0 ≤ f) → ∃ i, i < (2 * f + 1) ^ n ∧ pAt f n i = x by
    intro hx
    obtain ⟨i, hi, he⟩ := h x.length x rfl hx
    exact List.mem_map.2 ⟨i, List.mem_range.2 hi, he⟩
  intro n
  induction n with
  | zero => intro x hl _; exact ⟨0, by simp, by rw [List.length_eq_zero_iff.1 hl]; rfl⟩
  | succ n ih =>
    intro x hl hx
    have hne : x ≠ [] := by rintro rfl; cases hl
    obtain ⟨y, z, rfl⟩ : ∃ y z, x = y ++ [z] := ⟨x.dropLast, x.getLast hne, (List.dropLast_concat_getLast hne).symm⟩
    have hyl : y.length = n := by simpa using hl
    have hy : ∀ k, -(f : Int) ≤ y.getD k 0 ∧ y.getD k 0 ≤ f := fun k => by
      rcases Nat.lt_or_ge k n with h | h
      · have := hx k
        simp only [List.getD_eq_getElem?_getD, List.getElem?_append] at this ⊢
        rwa [if_pos (by omega)] at this
      · rw [List.getD_eq_getElem?_getD, List.getElem?_eq_none (by omega)]
        simp only [Option.getD_none]; omega
    obtain ⟨i, hi, he⟩ := ih y hyl hy
    have hz := hx n
    simp only [List.getD_eq_getElem?_getD, List.getElem?_append] at hz
    rw [if_neg (by omega), hyl] at hz
    simp at hz
    refine ⟨i * (2 * f + 1) + (z + f).toNat, ?_, ?_⟩
    · rw [Nat.pow_succ]
      have : (i + 1) * (2 * f + 1) ≤ (2 * f + 1) ^ n * (2 * f + 1) := Nat.mul_le_mul_right _ (by omega)
      rw [Nat.add_mul, Nat.one_mul] at this
      omega
    · rw [pAt_row f n i _ (by omega), he]
      congr 2; omega
theorem areas_neg {l : List Int} {n f a : Int} (h : searchE l n f = 0) (h0 : (0 : Int) ∉ l) (h2 : (2 : Int) ∉ l) (ha : a ∈ areasL l n f) : -a ∈ areasL l n f ∧ -1000 ≤ a ∧ a ≤ 1000 := by
  have hs := searchE_f h
  have hn : n.toNat ≤ 6 := by omega
  have hf : f.toNat ≤ 2 := by omega
  rw [areas_mem h] at ha ⊢
  obtain ⟨x, hx, rfl⟩ := ha
  have hb := ar_closed hn hf x hx
  obtain ⟨hm, hc⟩ := List.mem_filter.1 hx
  have hodd : ∀ m ∈ l, m = 1 ∨ m = 3 := fun m hm => by
    have h1 := modes_in hs.2.2.2.2 m hm
    have h3 : m ≠ 0 := fun e => h0 (e ▸ hm)
    have h4 : m ≠ 2 := fun e => h2 (e ▸ hm)
    omega
  have hxl := pulses_len hm
  have hl0 := areModes_len hs.2.2.2.2
  have hfirst : l.getD 0 0 ∈ l := by
    simp only [List.getD_eq_getElem?_getD, List.getElem?_eq_getElem hl0, Option.getD_some]; exact List.getElem_mem hl0
  refine ⟨⟨altL x, List.mem_filter.2 ⟨?_, ?_⟩, ?_⟩, hb⟩
  · have hmem : altL x ∈ pulsesL f.toNat (altL x).length := pulse_mem _ fun k => by
      obtain ⟨i, _, rfl⟩ := pulses_at hm
      have := pAt_force f.toNat n.toNat i k
      rw [altL_get]
      unfold sgn
      split <;> omega
    rwa [altL_length, hxl] at hmem
  · rw [closedAllB, List.all_eq_true] at hc ⊢
    intro m hml
    have := hc m hml
    rw [closedB_z, beq_iff_eq] at this ⊢
    rw [altL_length, x_odd m (hodd m hml), conj_z]
    exact this
  · have e := a_odd (l.getD 0 0) (hodd _ hfirst) x x.length
    rw [arF, area_z] at hb ⊢
    rw [altL_length, e, arF, area_z, ← w_neg, w_small (a := -wrap64 (aZ (l.getD 0 0) x x.length)) (by omega) (by omega)]
/-- The same as find_facts, for the program's own check. -/
theorem find_facts' {l : List Int} {a n f : Int} {q : List Int} {b : Bool} (h : FindIs l a n f q b) (hb : b = true) : chkE q l a (closedAllB q l) (areaP (pathL (l.getD 0 0) q)) = 0 := by
  rw [chk_same]; exact ((find_facts h).2.2 hb).2.2.2.2.1
theorem known_closed : modesG [1, 1, 1, 1] (closedB [1, 1, 1, 1]) = [1, 2, 3] ∧ validE [1, 1, 1, 1] = 0 := by decide +kernel
end Go.Proofs.Ytpjdojjdhbmbjaa
