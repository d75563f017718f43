/- The chance of any error: products above one minus sums. Numbers and lists alone. -/
import Derived.Test.YtgbjglkiaoplmaaBudM
namespace Go.Proofs.Ytgbjglkiaoplmaa

/-- Fractions a/b of the value p/e, and c/d of the value q/f. -/
theorem cross_lt2 {a b c d p e q f : Int} (hb : 0 < b) (hd : 0 < d) (he : 0 < e) (hf : 0 < f) (h1 : a * e = p * b) (h2 : c * f = q * d) : a * d < c * b ↔ p * f < q * e := by
  have hbd := Int.mul_pos hb hd
  have hef := Int.mul_pos he hf
  have e1 : (a * d) * (e * f) = (p * f) * (b * d) := by
    have : (a * d) * (e * f) = (a * e) * (d * f) := by grind
    rw [this, h1]; grind
  have e2 : (c * b) * (e * f) = (q * e) * (b * d) := by
    have : (c * b) * (e * f) = (c * f) * (b * e) := by grind
    rw [this, h2]; grind
  constructor
  · intro h
    have := Int.mul_lt_mul_of_pos_right h hef
    rcases Int.lt_or_le (p * f) (q * e) with h' | h'
    · exact h'
    · have := Int.mul_le_mul_of_nonneg_right h' (Int.le_of_lt hbd); omega
  · intro h
    have := Int.mul_lt_mul_of_pos_right h hbd
    rcases Int.lt_or_le (a * d) (c * b) with h' | h'
    · exact h'
    · have := Int.mul_le_mul_of_nonneg_right h' (Int.le_of_lt hef); omega
theorem low_times {N D M E : Int} (hD : 0 < D) (hE : 0 < E) : low ((low N D).1 * (low M E).1) ((low N D).2 * (low M E).2) = low (N * M) (D * E) := by
  have h1 := low_cross (n := N) hD
  have h2 := low_cross (n := M) hE
  have d1 := (low_den (n := N) hD).1
  have d2 := (low_den (n := M) hE).1
  refine low_eq (Int.mul_pos d1 d2) (Int.mul_pos hD hE) ?_
  generalize (low N D).1 = a at *
  generalize (low N D).2 = b at *
  generalize (low M E).1 = c at *
  generalize (low M E).2 = d at *
  have : a * c * (D * E) = (a * D) * (c * E) := by grind
  rw [this, h1, h2]; grind
theorem low_rest {N D : Int} (hD : 0 < D) : low ((low N D).2 - (low N D).1) (low N D).2 = low (D - N) D := by
  have h1 := low_cross (n := N) hD
  have d1 := (low_den (n := N) hD).1
  refine low_eq d1 hD ?_
  generalize (low N D).1 = a at *
  generalize (low N D).2 = b at *
  rw [Int.sub_mul, Int.sub_mul, h1, Int.mul_comm]

/-- j times as likely that nothing fails. -/
def useTo (x : It) (s : Int × Int) : Nat → Int × Int
  | 0 => s
  | j + 1 => ((useTo x s j).1 * (x.d - x.n), (useTo x s j).2 * x.d)
def noneTo (l : List It) : Nat → Int × Int
  | 0 => (1, 1)
  | k + 1 => useTo (l.getD k it0) (noneTo l k) (l.getD k it0).u.toNat
def noneL (l : List It) : Int × Int := noneTo l l.length
def usesTo (l : List It) : Nat → Int
  | 0 => 0
  | k + 1 => usesTo l k + (l.getD k it0).u
def usesL (l : List It) : Int := usesTo l l.length
/-- N/D after c factors, and parts P. -/
structure Safe (s : Int × Int) (c : Nat) (P : Int) : Prop where
  n0 : 0 ≤ s.1
  nd : s.1 ≤ s.2
  d0 : 0 < s.2
  d1 : s.2 ≤ (10 : Int) ^ c
  le : (s.2 - s.1) * 2520 ≤ P * s.2
theorem Safe.next {s : Int × Int} {c : Nat} {P n d : Int} (h : Safe s c P) (hr : rateB n d = true) : Safe (s.1 * (d - n), s.2 * d) (c + 1) (P + part n d) := by
  obtain ⟨h1, h2, h3, h4⟩ := rateB_iff.1 hr
  have hp := part_mul (n := n) h1 h2
  obtain ⟨N, D⟩ := s
  obtain ⟨n0, nd, d0, d1, le⟩ := h
  simp only at n0 nd d0 d1 le
  have e1 : 0 ≤ N * (d - n) := Int.mul_nonneg n0 (by omega)
  have e2 : N * (d - n) ≤ D * d := by
    have a1 := Int.mul_le_mul_of_nonneg_left (show d - n ≤ d by omega) n0
    have a2 := Int.mul_le_mul_of_nonneg_right nd (show 0 ≤ d by omega)
    omega
  refine ⟨e1, e2, Int.mul_pos d0 (by omega), ?_, ?_⟩
  · show D * d ≤ _
    rw [Int.pow_succ]
    have a1 := Int.mul_le_mul_of_nonneg_left h2 (show 0 ≤ D by omega)
    have a2 := Int.mul_le_mul_of_nonneg_right d1 (show (0 : Int) ≤ 10 by decide)
    omega
  · show (D * d - N * (d - n)) * 2520 ≤ (P + part n d) * (D * d)
    generalize part n d = q at *
    have a1 := Int.mul_le_mul_of_nonneg_right le (show 0 ≤ d by omega)
    have a2 := Int.mul_le_mul_of_nonneg_right nd (show 0 ≤ n * 2520 by omega)
    have b1 : (D * d - N * (d - n)) * 2520 = (D - N) * 2520 * d + N * (n * 2520) := by grind
    have b2 : (P + q) * (D * d) = P * D * d + D * (q * d) := by grind
    rw [b1, b2, hp]
    omega
theorem use_safe {x : It} {s : Int × Int} {c : Nat} {P : Int} (h : Safe s c P) (hr : rateB x.n x.d = true) : ∀ j, Safe (useTo x s j) (c + j) (P + j * part x.n x.d)
  | 0 => by simpa [useTo] using h
  | j + 1 => by
    have := (use_safe h hr j).next hr
    rw [show P + ((j + 1 : Nat) : Int) * part x.n x.d = P + j * part x.n x.d + part x.n x.d by push_cast; rw [Int.add_mul]; omega]
    exact this
theorem uses_pos {m : Int} {l : List It} (h : OkIs m l) : ∀ k, k ≤ l.length → 0 ≤ usesTo l k
  | 0, _ => Int.le_refl _
  | k + 1, hk => by have := uses_pos h k (by omega); have := (h k (by omega)).u0; rw [usesTo]; omega
theorem uses_mono {m : Int} {l : List It} (h : OkIs m l) : ∀ (k j : Nat), j ≤ k → k ≤ l.length → usesTo l j ≤ usesTo l k
  | 0, j, hj, _ => by rw [show j = 0 by omega]; exact Int.le_refl _
  | k + 1, j, hj, hk => by
    rcases Nat.lt_or_ge j (k + 1) with h' | h'
    · have := uses_mono h k j (by omega) (by omega); have := (h k (by omega)).u0; rw [usesTo]; omega
    · rw [show j = k + 1 by omega]; exact Int.le_refl _
theorem uses_bound {m : Int} {l : List It} (h : OkIs m l) : ∀ k, k ≤ l.length → usesTo l k ≤ (k : Int) * m
  | 0, _ => by simp [usesTo]
  | k + 1, hk => by have := uses_bound h k (by omega); have := (h k (by omega)).um; rw [usesTo]; push_cast; rw [Int.add_mul]; omega
theorem none_safe {l : List It} (h : OkIs 8 l) : ∀ k, k ≤ l.length → Safe (noneTo l k) (usesTo l k).toNat (partsTo l k)
  | 0, _ => ⟨by show (0 : Int) ≤ 1; decide, by show (1 : Int) ≤ 1; decide, by show (0 : Int) < 1; decide, by show (1 : Int) ≤ 10 ^ (0 : Int).toNat; decide, by show ((1 : Int) - 1) * 2520 ≤ 0 * 1; decide⟩
  | k + 1, hk => by
    have hx := h k (by omega)
    have := use_safe (none_safe h k (by omega)) hx.r (l.getD k it0).u.toNat
    have h0 := uses_pos h k (by omega)
    have h1 := hx.u0
    rw [show (usesTo l k).toNat + (l.getD k it0).u.toNat = (usesTo l (k + 1)).toNat by rw [usesTo]; omega,
      show partsTo l k + ((l.getD k it0).u.toNat : Int) * part (l.getD k it0).n (l.getD k it0).d = partsTo l (k + 1) by rw [partsTo]; unfold shareP; rw [show (((l.getD k it0).u.toNat : Nat) : Int) = (l.getD k it0).u by omega]] at this
    exact this
/-- At each use the numbers are small where the uses are at most 8. -/
theorem none_small {l : List It} (h : OkIs 8 l) (hu : usesL l ≤ 8) {k j : Nat} (hk : k < l.length) (hj : j ≤ (l.getD k it0).u.toNat) :
    Safe (useTo (l.getD k it0) (noneTo l k) j) ((usesTo l k).toNat + j) (partsTo l k + j * part (l.getD k it0).n (l.getD k it0).d) ∧ (usesTo l k).toNat + j ≤ 8 := by
  have hx := h k hk
  have h0 := uses_pos h k (by omega)
  have h1 := hx.u0
  have h2 := uses_mono h l.length (k + 1) hk (Nat.le_refl _)
  unfold usesL at hu
  rw [usesTo] at h2
  exact ⟨use_safe (none_safe h k (by omega)) hx.r j, by omega⟩
theorem pow_small {c : Nat} (h : c ≤ 8) : (10 : Int) ^ c ≤ 100000000 := by
  have : c = 0 ∨ c = 1 ∨ c = 2 ∨ c = 3 ∨ c = 4 ∨ c = 5 ∨ c = 6 ∨ c = 7 ∨ c = 8 := by omega
  rcases this with rfl | rfl | rfl | rfl | rfl | rfl | rfl | rfl | rfl <;> decide
theorem Safe.small {s : Int × Int} {c : Nat} {P : Int} (h : Safe s c P) (hc : c ≤ 8) : 0 ≤ s.1 ∧ s.1 ≤ s.2 ∧ 0 < s.2 ∧ s.2 ≤ 100000000 := ⟨h.n0, h.nd, h.d0, Int.le_trans h.d1 (pow_small hc)⟩
/-- The chance. -/
def chanceL (l : List It) : Int × Int := low ((noneL l).2 - (noneL l).1) (noneL l).2
theorem chance_safe {l : List It} (h : OkIs 8 l) (hu : usesL l ≤ 8) : Safe (noneL l) (usesTo l l.length).toNat (partsL l) ∧ (usesTo l l.length).toNat ≤ 8 :=
  ⟨none_safe h _ (Nat.le_refl _), by unfold usesL at hu; omega⟩
theorem chance_in {l : List It} (h : OkIs 8 l) (hu : usesL l ≤ 8) : 0 ≤ (chanceL l).1 ∧ (chanceL l).1 ≤ (chanceL l).2 ∧ 0 < (chanceL l).2 ∧ (chanceL l).2 ≤ 100000000 := by
  obtain ⟨hs, hc⟩ := chance_safe h hu
  obtain ⟨h1, h2, h3, h4⟩ := hs.small hc
  unfold chanceL
  generalize (noneL l).1 = N at *
  generalize (noneL l).2 = D at *
  have d := low_den (n := D - N) h3
  have n := low_num (n := D - N) (d := D) (by omega) h3
  have e := low_cross (n := D - N) h3
  refine ⟨n.1, ?_, d.1, by omega⟩
  generalize (low (D - N) D).1 = a at *
  generalize (low (D - N) D).2 = b at *
  rcases Int.lt_or_le b a with h' | h'
  · have a1 := Int.mul_le_mul_of_nonneg_right (show b + 1 ≤ a by omega) (show 0 ≤ D by omega)
    have a2 := Int.mul_le_mul_of_nonneg_right (show D - N ≤ D by omega) (show 0 ≤ b by omega)
    rw [Int.add_mul] at a1
    have a3 : b * D = D * b := Int.mul_comm _ _
    omega
  · exact h'
/-- The chance is at most the total. -/
theorem chance_total {l : List It} (h : OkIs 8 l) (hu : usesL l ≤ 8) : ¬ (rat (partsL l)).1 * (chanceL l).2 < (chanceL l).1 * (rat (partsL l)).2 := by
  obtain ⟨hs, hc⟩ := chance_safe h hu
  obtain ⟨h1, h2, h3, h4⟩ := hs.small hc
  have le := hs.le
  unfold chanceL
  generalize (noneL l).1 = N at *
  generalize (noneL l).2 = D at *
  rw [cross_lt2 (rat_den _).1 (low_den h3).1 (by decide) h3 (rat_cross _) (low_cross h3)]
  omega
/-- .. and at most any limit by which the budget closes. -/
theorem chance_limit {l : List It} (h : OkIs 8 l) (hu : usesL l ≤ 8) {m e : Int} (he : 0 < e) (hc : closeB l m e = true) : ¬ m * (chanceL l).2 < (chanceL l).1 * e := by
  obtain ⟨hs, hc8⟩ := chance_safe h hu
  obtain ⟨h1, h2, h3, h4⟩ := hs.small hc8
  have le := hs.le
  have hc := of_decide_eq_true hc
  unfold chanceL
  generalize (noneL l).1 = N at *
  generalize (noneL l).2 = D at *
  generalize partsL l = P at *
  rw [cross_lt2 (p := m) (e := e) he (low_den h3).1 he h3 rfl (low_cross h3)]
  intro hlt
  have a1 := Int.mul_le_mul_of_nonneg_right le (Int.le_of_lt he)
  have a2 := Int.mul_le_mul_of_nonneg_right hc (Int.le_of_lt h3)
  have b1 : (D - N) * 2520 * e = ((D - N) * e) * 2520 := by grind
  have b2 : P * D * e = P * e * D := by grind
  have b3 : m * 2520 * D = (m * D) * 2520 := by grind
  omega
end Go.Proofs.Ytgbjglkiaoplmaa
