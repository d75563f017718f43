/- The smallest rate and the steepest way. Lists and numbers alone. -/
import Derived.Test.YtbbhaongakmhpaaDrfM
namespace Go.Proofs.Ytbbhaongakmhpaa

/- The smallest rate. -/
def slowO (l : List T3) : Option Nat := rowF (fun r => agreeB l (r : Int)) 10 0
def slowG (l : List T3) : Int × Bool := match slowO l with
  | some r => ((r : Int), true)
  | none => (0, false)

/- The steepest way. -/
def stS (l : List T3) (i k : Nat) (s : Int × Int) : Int × Int :=
  if i ≠ k ∧ s.1 * farI (tm l i) (tm l k) < (lw l i - hg l k) * s.2 then (lw l i - hg l k, farI (tm l i) (tm l k)) else s
def stRow (l : List T3) (i : Nat) (s : Int × Int) : Nat → Int × Int
  | 0 => s
  | k + 1 => stS l i k (stRow l i s k)
def stTo (l : List T3) : Nat → Int × Int
  | 0 => (0, 1)
  | i + 1 => stRow l i (stTo l i) l.length
def stL (l : List T3) : Int × Int := stTo l l.length
/-- In lowest terms. -/
def ratN (s : Int × Int) : Int × Int := (s.1 / (Int.gcd s.1 s.2 : Int), s.2 / (Int.gcd s.1 s.2 : Int))

/-- A way as steep as all so far. -/
structure Steep (l : List T3) (n m : Nat) (s : Int × Int) : Prop where
  num : 0 ≤ s.1
  den : 1 ≤ s.2
  num1 : s.1 ≤ 2000
  den1 : s.2 ≤ 1000
  all : ∀ i k, (i < n ∨ i = n ∧ k < m) → i < l.length → k < l.length → i ≠ k → (lw l i - hg l k) * s.2 ≤ s.1 * farI (tm l i) (tm l k)
  one : s = (0, 1) ∨ ∃ i k, i < l.length ∧ k < l.length ∧ i ≠ k ∧ s = (lw l i - hg l k, farI (tm l i) (tm l k))
theorem cross {a b c d x y : Int} (hb : 1 ≤ b) (hd : 1 ≤ d) (hy : 1 ≤ y) (h1 : x * b ≤ a * y) (h2 : a * d ≤ c * b) : x * d ≤ c * y := by
  have e1 : x * d * b ≤ a * y * d := by
    rw [show x * d * b = x * b * d by rw [Int.mul_assoc, Int.mul_comm d b, ← Int.mul_assoc]]
    exact Int.mul_le_mul_of_nonneg_right h1 (by omega)
  have e2 : a * y * d ≤ c * y * b := by
    rw [show a * y * d = a * d * y by rw [Int.mul_assoc, Int.mul_comm y d, ← Int.mul_assoc], show c * y * b = c * b * y by rw [Int.mul_assoc, Int.mul_comm y b, ← Int.mul_assoc]]
    exact Int.mul_le_mul_of_nonneg_right h2 (by omega)
  exact Int.le_of_mul_le_mul_right (Int.le_trans e1 e2) (by omega)
theorem far_pos {l : List T3} (hl : Ok l) {i k : Nat} (hi : i < l.length) (hk : k < l.length) (hne : i ≠ k) : 1 ≤ farI (tm l i) (tm l k) ∧ farI (tm l i) (tm l k) ≤ 1000 := by
  have a1 := hl.t0 i hi
  have a2 := hl.t1 i hi
  have a3 := hl.t0 k hk
  have a4 := hl.t1 k hk
  have h : tm l i ≠ tm l k := by
    rcases Nat.lt_trichotomy i k with h1 | h1 | h1
    · have := hl.inc i k h1 hk; omega
    · exact absurd h1 hne
    · have := hl.inc k i h1 hi; omega
  constructor
  · have := farI_pos (tm l i) (tm l k)
    have := mt farI_zero.1 h
    omega
  · unfold farI; omega
theorem steep_step {l : List T3} (hl : Ok l) {i k : Nat} {s : Int × Int} (hi : i < l.length) (hk : k < l.length) (h : Steep l i k s) : Steep l i (k + 1) (stS l i k s) := by
  unfold stS
  by_cases hc : i ≠ k ∧ s.1 * farI (tm l i) (tm l k) < (lw l i - hg l k) * s.2
  · rw [if_pos hc]
    obtain ⟨hne, hc⟩ := hc
    obtain ⟨f1, f2⟩ := far_pos hl hi hk hne
    have hn : 0 < lw l i - hg l k := by
      have h1 : 0 ≤ s.1 * farI (tm l i) (tm l k) := Int.mul_nonneg h.num (by omega)
      rcases Int.lt_or_le 0 (lw l i - hg l k) with h2 | h2
      · exact h2
      · have h3 : (lw l i - hg l k) * s.2 ≤ 0 := Int.mul_nonpos_of_nonpos_of_nonneg h2 (by have := h.den; omega)
        omega
    have b1 := hl.hi i hi
    have b2 := hl.lh i hi
    have b3 := hl.lo k hk
    have b4 := hl.lh k hk
    refine ⟨by show 0 ≤ lw l i - hg l k; omega, f1, by show lw l i - hg l k ≤ 2000; omega, f2, fun i' k' hor hi' hk' hne' => ?_, .inr ⟨i, k, hi, hk, hne, rfl⟩⟩
    by_cases hlast : i' = i ∧ k' = k
    · obtain ⟨rfl, rfl⟩ := hlast
      exact Int.le_refl _
    · have h1 := h.all i' k' (by omega) hi' hk' hne'
      obtain ⟨g1, g2⟩ := far_pos hl hi' hk' hne'
      exact cross (a := s.1) (b := s.2) h.den f1 g1 h1 (by show s.1 * farI (tm l i) (tm l k) ≤ (lw l i - hg l k) * s.2; omega)
  · rw [if_neg hc]
    refine ⟨h.num, h.den, h.num1, h.den1, fun i' k' hor hi' hk' hne' => ?_, h.one⟩
    by_cases hlast : i' = i ∧ k' = k
    · obtain ⟨rfl, rfl⟩ := hlast
      have := fun x => hc ⟨hne', x⟩
      omega
    · exact h.all i' k' (by omega) hi' hk' hne'
theorem steep_row {l : List T3} (hl : Ok l) {i : Nat} {s : Int × Int} (hi : i < l.length) (h : Steep l i 0 s) : ∀ {k : Nat}, k ≤ l.length → Steep l i k (stRow l i s k)
  | 0, _ => h
  | k + 1, hk => steep_step hl hi (by omega) (steep_row hl hi h (by omega))
theorem steep_to {l : List T3} (hl : Ok l) : ∀ {i : Nat}, i ≤ l.length → Steep l i 0 (stTo l i)
  | 0, _ => ⟨by simp [stTo], by simp [stTo], by simp [stTo], by simp [stTo], fun i k h => by omega, .inl rfl⟩
  | i + 1, hi => by
    have h := steep_row hl (by omega) (steep_to hl (i := i) (by omega)) (Nat.le_refl _)
    exact ⟨h.num, h.den, h.num1, h.den1, fun i' k' hor hi' hk' hne => h.all i' k' (by omega) hi' hk' hne, h.one⟩
theorem steep_all {l : List T3} (hl : Ok l) : Steep l l.length 0 (stL l) := steep_to hl (Nat.le_refl _)
/-- Readings agree by just the rates that are as steep. -/
theorem steep_agree {l : List T3} (hl : Ok l) {r : Int} (hr : 0 ≤ r) : agreeB l r = true ↔ (stL l).1 ≤ r * (stL l).2 := by
  have hs := steep_all hl
  rw [agree_iff hl hr]
  constructor
  · intro h
    rcases hs.one with h1 | ⟨i, k, hi, hk, hne, h1⟩
    · rw [h1]; simpa using hr
    · rw [h1]; exact h i k hi hk
  · intro h i k hi hk
    by_cases hne : i = k
    · subst hne
      have := hl.lh i hi
      have := way_pos hr (tm l i) (tm l i)
      omega
    · have h1 := hs.all i k (.inl hi) hi hk hne
      have h2 := cross (x := lw l i - hg l k) (y := farI (tm l i) (tm l k)) (a := (stL l).1) (b := (stL l).2) (c := r) (d := 1) hs.den (Int.le_refl _) (far_pos hl hi hk hne).1 h1 (by omega)
      omega

/- Lowest terms. -/
theorem gcd_pos {s : Int × Int} (h : 1 ≤ s.2) : 1 ≤ (Int.gcd s.1 s.2 : Int) := by
  have : 0 < Int.gcd s.1 s.2 := Int.gcd_pos_of_ne_zero_right _ (by omega)
  omega
theorem ratN_mul (s : Int × Int) : (ratN s).1 * (Int.gcd s.1 s.2 : Int) = s.1 ∧ (ratN s).2 * (Int.gcd s.1 s.2 : Int) = s.2 :=
  ⟨Int.ediv_mul_cancel (Int.gcd_dvd_left ..), Int.ediv_mul_cancel (Int.gcd_dvd_right ..)⟩
theorem ratN_pos {s : Int × Int} (h : 1 ≤ s.2) (h0 : 0 ≤ s.1) : 0 ≤ (ratN s).1 ∧ 1 ≤ (ratN s).2 ∧ (ratN s).1 ≤ s.1 ∧ (ratN s).2 ≤ s.2 := by
  have hg := gcd_pos h
  obtain ⟨h1, h2⟩ := ratN_mul s
  have a1 : 0 ≤ (ratN s).1 := Int.ediv_nonneg h0 (by omega)
  have a2 : 0 ≤ (ratN s).2 := Int.ediv_nonneg (by omega) (by omega)
  have a3 : (ratN s).2 ≠ 0 := fun h3 => by rw [h3] at h2; omega
  have a4 : (ratN s).1 * 1 ≤ (ratN s).1 * (Int.gcd s.1 s.2 : Int) := Int.mul_le_mul_of_nonneg_left hg a1
  have a5 : (ratN s).2 * 1 ≤ (ratN s).2 * (Int.gcd s.1 s.2 : Int) := Int.mul_le_mul_of_nonneg_left hg a2
  exact ⟨a1, by omega, by omega, by omega⟩
/-- Which one is steeper doesn't hang on the terms. -/
theorem ratN_lt {s : Int × Int} (h : 1 ≤ s.2) (n d : Int) : (ratN s).1 * d < n * (ratN s).2 ↔ s.1 * d < n * s.2 := by
  have hg := gcd_pos h
  obtain ⟨h1, h2⟩ := ratN_mul s
  generalize (Int.gcd s.1 s.2 : Int) = g at *
  generalize (ratN s).1 = a at *
  generalize (ratN s).2 = b at *
  rw [← h1, ← h2, show a * g * d = a * d * g by rw [Int.mul_assoc, Int.mul_comm g d, ← Int.mul_assoc], ← Int.mul_assoc]
  exact ⟨fun x => Int.mul_lt_mul_of_pos_right x (by omega), fun x => Int.lt_of_mul_lt_mul_right x (by omega)⟩
theorem ratN_le {s : Int × Int} (h : 1 ≤ s.2) (r : Int) : (ratN s).1 ≤ r * (ratN s).2 ↔ s.1 ≤ r * s.2 := by
  have := ratN_lt h r 1
  have hg := gcd_pos h
  obtain ⟨h1, h2⟩ := ratN_mul s
  generalize (Int.gcd s.1 s.2 : Int) = g at *
  generalize (ratN s).1 = a at *
  generalize (ratN s).2 = b at *
  constructor
  · intro x
    rw [← h1, ← h2, ← Int.mul_assoc]
    exact Int.mul_le_mul_of_nonneg_right x (by omega)
  · intro x
    rw [← h1, ← h2, ← Int.mul_assoc] at x
    exact Int.le_of_mul_le_mul_right x (by omega)
theorem ratN_zero : ratN (0, 1) = (0, 1) := by decide
/-- Rounded up. -/
theorem up_le {a b r : Int} (hb : 1 ≤ b) : (a + b - 1) / b ≤ r ↔ a ≤ r * b := by
  rw [Int.le_iff_lt_add_one, Int.ediv_lt_iff_lt_mul (by omega), Int.add_mul]
  omega
theorem slow_up {l : List T3} (hl : Ok l) : (slowG l).2 = decide (((ratN (stL l)).1 + (ratN (stL l)).2 - 1) / (ratN (stL l)).2 ≤ 9) ∧ ((slowG l).2 = true → (slowG l).1 = ((ratN (stL l)).1 + (ratN (stL l)).2 - 1) / (ratN (stL l)).2) := by
  have hs := steep_all hl
  obtain ⟨p1, p2, p3, p4⟩ := ratN_pos hs.den hs.num
  have key : ∀ r : Int, 0 ≤ r → (agreeB l r = true ↔ ((ratN (stL l)).1 + (ratN (stL l)).2 - 1) / (ratN (stL l)).2 ≤ r) := fun r hr => by
    rw [steep_agree hl hr, up_le p2, ratN_le hs.den]
  have hu : 0 ≤ ((ratN (stL l)).1 + (ratN (stL l)).2 - 1) / (ratN (stL l)).2 := Int.ediv_nonneg (by omega) (by omega)
  generalize ((ratN (stL l)).1 + (ratN (stL l)).2 - 1) / (ratN (stL l)).2 = u at *
  unfold slowG
  rcases ho : slowO l with _ | m
  · unfold slowO at ho
    rw [rowF_none] at ho
    have h9 := ho 9 (by omega) (by omega)
    have : ¬ u ≤ 9 := fun h => by
      have := (key 9 (by omega)).2 h
      rw [show ((9 : Nat) : Int) = 9 from rfl, this] at h9; cases h9
    exact ⟨by simp [this], fun h => by cases h⟩
  · obtain ⟨h1, h2, h3, h4⟩ := rowF_some ho
    have h5 := (key (m : Int) (by omega)).1 h3
    have h6 : (m : Int) ≤ u := by
      rcases Int.lt_or_le u (m : Int) with h7 | h7
      · have h8 := (key u hu).2 (Int.le_refl _)
        have h9 := h4 u.toNat (by omega) (by omega)
        rw [Int.toNat_of_nonneg hu, h8] at h9
        cases h9
      · exact h7
    exact ⟨by simp; omega, fun _ => by show (m : Int) = u; omega⟩
/-- They agree just from the slowest rate on. -/
theorem slow_agree {l : List T3} (hl : Ok l) {r : Int} (hr : 0 ≤ r) (h9 : r ≤ 9) : agreeB l r = ((slowG l).2 && decide ((slowG l).1 ≤ r)) := by
  have hs := steep_all hl
  obtain ⟨p1, p2, p3, p4⟩ := ratN_pos hs.den hs.num
  have key : agreeB l r = true ↔ ((ratN (stL l)).1 + (ratN (stL l)).2 - 1) / (ratN (stL l)).2 ≤ r := by rw [steep_agree hl hr, up_le p2, ratN_le hs.den]
  obtain ⟨h1, h2⟩ := slow_up hl
  generalize ((ratN (stL l)).1 + (ratN (stL l)).2 - 1) / (ratN (stL l)).2 = u at *
  rcases hb : (slowG l).2 with _ | _
  · rw [hb] at h1
    have h3 : ¬ u ≤ 9 := by simpa using h1
    rcases ha : agreeB l r with _ | _
    · rfl
    · have := key.1 ha; omega
  · rw [h2 hb]
    rcases ha : agreeB l r with _ | _
    · have : ¬ u ≤ r := fun h => by rw [key.2 h] at ha; cases ha
      simp [this]
    · have := key.1 ha
      simp [this]
end Go.Proofs.Ytbbhaongakmhpaa
