/- Fractions in lowest terms, parts of 2520, budgets, limits, chances. Numbers and lists alone. -/
import Derived.Test.YtgbjglkiaoplmaaOwn
namespace Go.Proofs.Ytgbjglkiaoplmaa

/-- n/d in lowest terms. -/
def low (n d : Int) : Int × Int := (n / (Int.gcd n d : Int), d / (Int.gcd n d : Int))
theorem gcd_pos' {n d : Int} (hd : 0 < d) : (0 : Int) < (Int.gcd n d : Int) := by
  have := Int.gcd_pos_of_ne_zero_right n (show d ≠ 0 by omega)
  omega
theorem low_mul {n d k : Int} (hd : 0 < d) (hk : 0 < k) : low (n * k) (d * k) = low n d := by
  unfold low
  have hg := gcd_pos' (n := n) hd
  have e : ((Int.gcd (n * k) (d * k) : Nat) : Int) = (Int.gcd n d : Int) * k := by
    rw [Int.gcd_mul_right]; push_cast; rw [show ((k.natAbs : Nat) : Int) = k by omega]
  rw [e, Int.mul_ediv_mul_of_pos_left _ _ hk, Int.mul_ediv_mul_of_pos_left _ _ hk]
theorem low_eq {n d m e : Int} (hd : 0 < d) (he : 0 < e) (h : n * e = m * d) : low n d = low m e := by
  rw [← low_mul (n := n) hd he, ← low_mul (n := m) he hd, h, Int.mul_comm e d]
/-- What it is made of: the greatest common divisor. -/
theorem low_gcd {n d : Int} (hd : 0 < d) : ∃ g : Int, 0 < g ∧ (low n d).1 * g = n ∧ (low n d).2 * g = d :=
  ⟨_, gcd_pos' (n := n) hd, Int.ediv_mul_cancel (Int.gcd_dvd_left n d), Int.ediv_mul_cancel (Int.gcd_dvd_right n d)⟩
theorem low_cross {n d : Int} (hd : 0 < d) : (low n d).1 * d = n * (low n d).2 := by
  obtain ⟨g, _, h1, h2⟩ := low_gcd (n := n) hd
  generalize (low n d).1 = x at *
  generalize (low n d).2 = y at *
  rw [← h1, ← h2, Int.mul_assoc, Int.mul_comm g y]
theorem low_den {n d : Int} (hd : 0 < d) : 0 < (low n d).2 ∧ (low n d).2 ≤ d := by
  obtain ⟨g, hg, _, h2⟩ := low_gcd (n := n) hd
  generalize (low n d).2 = y at *
  have hy : 0 < y := by
    rcases Int.lt_or_le 0 y with h | h
    · exact h
    · have := Int.mul_le_mul_of_nonneg_right h (Int.le_of_lt hg); omega
  refine ⟨hy, ?_⟩
  have := Int.mul_le_mul_of_nonneg_left (show 1 ≤ g by omega) (Int.le_of_lt hy)
  omega
theorem low_num {n d : Int} (hn : 0 ≤ n) (hd : 0 < d) : 0 ≤ (low n d).1 ∧ (low n d).1 ≤ n := by
  obtain ⟨g, hg, h1, _⟩ := low_gcd (n := n) hd
  generalize (low n d).1 = x at *
  have hx : 0 ≤ x := by
    rcases Int.lt_or_le x 0 with h | h
    · have := Int.mul_le_mul_of_nonneg_right (show x ≤ -1 by omega) (Int.le_of_lt hg); omega
    · exact h
  refine ⟨hx, ?_⟩
  have := Int.mul_le_mul_of_nonneg_left (show 1 ≤ g by omega) hx
  omega
theorem low_low {n d : Int} (hd : 0 < d) : low (low n d).1 (low n d).2 = low n d := low_eq (low_den hd).1 hd (low_cross hd)
theorem low_of {n d : Int} (g : Int) (hg : g = (Int.gcd n d : Int)) : (n / g, d / g) = low n d := by subst hg; rfl
theorem low_zero {d : Int} (hd : 0 < d) : low 0 d = (0, 1) := by
  have := low_eq (n := 0) (m := 0) (e := 1) hd (by decide) (by omega)
  rw [this]; rfl

/-- p parts of 2520. -/
def rat (p : Int) : Int × Int := low p 2520
theorem rat_den (p : Int) : 0 < (rat p).2 ∧ (rat p).2 ≤ 2520 := low_den (by decide)
theorem rat_num {p : Int} (h : 0 ≤ p) : 0 ≤ (rat p).1 ∧ (rat p).1 ≤ p := low_num h (by decide)
theorem rat_cross (p : Int) : (rat p).1 * 2520 = p * (rat p).2 := low_cross (by decide)
theorem rat_of {n d p : Int} (hd : 0 < d) (h : n * 2520 = p * d) : low n d = rat p := low_eq hd (by decide) h
theorem rat_zero : rat 0 = (0, 1) := low_zero (by decide)
/-- Sums. -/
theorem rat_plus (p q : Int) : low ((rat p).1 * (rat q).2 + (rat q).1 * (rat p).2) ((rat p).2 * (rat q).2) = rat (p + q) := by
  have h1 := rat_cross p
  have h2 := rat_cross q
  have d1 := (rat_den p).1
  have d2 := (rat_den q).1
  generalize (rat p).1 = a at *
  generalize (rat p).2 = b at *
  generalize (rat q).1 = c at *
  generalize (rat q).2 = d at *
  refine rat_of (Int.mul_pos d1 d2) ?_
  have e1 : (a * d + c * b) * 2520 = (a * 2520) * d + (c * 2520) * b := by grind
  rw [e1, h1, h2]; grind
/-- Comparisons: a fraction that is p parts and one that is q parts. -/
theorem cross_lt {a b c d p q : Int} (hb : 0 < b) (hd : 0 < d) (h1 : a * 2520 = p * b) (h2 : c * 2520 = q * d) : a * d < c * b ↔ p < q := by
  have hbd := Int.mul_pos hb hd
  have e1 : (a * d) * 2520 = p * (b * d) := by
    have : (a * d) * 2520 = (a * 2520) * d := by grind
    rw [this, h1]; grind
  have e2 : (c * b) * 2520 = q * (b * d) := by
    have : (c * b) * 2520 = (c * 2520) * b := by grind
    rw [this, h2]; grind
  constructor
  · intro h
    rcases Int.lt_or_le p q with h' | h'
    · exact h'
    · have := Int.mul_le_mul_of_nonneg_right h' (Int.le_of_lt hbd); omega
  · intro h
    have := Int.mul_lt_mul_of_pos_right h hbd
    omega
theorem rat_lt (p q : Int) : (rat p).1 * (rat q).2 < (rat q).1 * (rat p).2 ↔ p < q := cross_lt (rat_den p).1 (rat_den q).1 (rat_cross p) (rat_cross q)
theorem rat_inj {p q : Int} (h : rat p = rat q) : p = q := by
  have h1 := rat_lt p q
  have h2 := rat_lt q p
  rw [h] at h1 h2
  omega
/-- A limit below a total. -/
theorem lim_lt {m e p : Int} : m * (rat p).2 < (rat p).1 * e ↔ m * 2520 < p * e := by
  have h1 := rat_cross p
  have d1 := (rat_den p).1
  generalize (rat p).1 = a at *
  generalize (rat p).2 = b at *
  have e1 : (a * e) * 2520 = (p * e) * b := by
    have : (a * e) * 2520 = (a * 2520) * e := by grind
    rw [this, h1]; grind
  constructor
  · intro h
    rcases Int.lt_or_le (m * 2520) (p * e) with h' | h'
    · exact h'
    · have := Int.mul_le_mul_of_nonneg_right h' (Int.le_of_lt d1)
      have e2 : m * 2520 * b = (m * b) * 2520 := by grind
      omega
  · intro h
    have := Int.mul_lt_mul_of_pos_right h d1
    have e2 : m * 2520 * b = (m * b) * 2520 := by grind
    omega

/-- An item: its uses, and its rate n/d. -/
structure It where
  u : Int
  n : Int
  d : Int
deriving DecidableEq
instance : Inhabited It := ⟨⟨0, 0, 0⟩⟩
def it0 : It := ⟨0, 0, 0⟩
def rateB (n d : Int) : Bool := decide (1 ≤ d ∧ d ≤ 10) && decide (0 ≤ n ∧ n ≤ d)
theorem rateB_iff {n d : Int} : rateB n d = true ↔ 1 ≤ d ∧ d ≤ 10 ∧ 0 ≤ n ∧ n ≤ d := by unfold rateB; rw [Bool.and_eq_true, decide_eq_true_eq, decide_eq_true_eq]; omega
def itB (x : It) : Bool := decide (1 ≤ x.u ∧ x.u ≤ 8) && rateB x.n x.d
theorem itB_iff {x : It} : itB x = true ↔ 1 ≤ x.u ∧ x.u ≤ 8 ∧ 1 ≤ x.d ∧ x.d ≤ 10 ∧ 0 ≤ x.n ∧ x.n ≤ x.d := by unfold itB; rw [Bool.and_eq_true, decide_eq_true_eq, rateB_iff]; omega
/-- How many parts of 2520 a rate is. -/
def part (n d : Int) : Int := if d < 1 then 0 else n * 2520 / d
theorem den_dvd {d : Int} (h1 : 1 ≤ d) (h2 : d ≤ 10) : d ∣ 2520 := by
  have : d = 1 ∨ d = 2 ∨ d = 3 ∨ d = 4 ∨ d = 5 ∨ d = 6 ∨ d = 7 ∨ d = 8 ∨ d = 9 ∨ d = 10 := by omega
  rcases this with rfl | rfl | rfl | rfl | rfl | rfl | rfl | rfl | rfl | rfl <;> decide
theorem part_mul {n d : Int} (h1 : 1 ≤ d) (h2 : d ≤ 10) : part n d * d = n * 2520 := by
  unfold part
  rw [if_neg (by omega)]
  exact Int.ediv_mul_cancel (Int.dvd_trans (den_dvd h1 h2) (Int.dvd_mul_left _ _))
theorem part_in {n d : Int} (h : rateB n d = true) : 0 ≤ part n d ∧ part n d ≤ 2520 := by
  obtain ⟨h1, h2, h3, h4⟩ := rateB_iff.1 h
  have e := part_mul (n := n) h1 h2
  generalize part n d = p at *
  constructor
  · rcases Int.lt_or_le p 0 with h | h
    · have := Int.mul_le_mul_of_nonneg_right (show p ≤ -1 by omega) (show 0 ≤ d by omega); omega
    · exact h
  · rcases Int.lt_or_le 2520 p with h | h
    · have := Int.mul_le_mul_of_nonneg_right (show 2521 ≤ p by omega) (show 0 ≤ d by omega); omega
    · exact h
/-- The parts of an item's share. -/
def shareP (x : It) : Int := x.u * part x.n x.d
def partsTo (l : List It) : Nat → Int
  | 0 => 0
  | k + 1 => partsTo l k + shareP (l.getD k it0)
def partsL (l : List It) : Int := partsTo l l.length
theorem share_low {x : It} (h1 : 1 ≤ x.d) (h2 : x.d ≤ 10) : low (x.u * x.n) x.d = rat (shareP x) := by
  refine rat_of (by omega) ?_
  have := part_mul (n := x.n) h1 h2
  unfold shareP
  rw [Int.mul_assoc, Int.mul_assoc, this]
/-- An item that is right but for its uses, which are from 0 to m. -/
structure OkI (m : Int) (x : It) : Prop where
  u0 : 0 ≤ x.u
  um : x.u ≤ m
  r : rateB x.n x.d = true
theorem OkI.den {m : Int} {x : It} (h : OkI m x) : 1 ≤ x.d ∧ x.d ≤ 10 ∧ 0 ≤ x.n ∧ x.n ≤ x.d := rateB_iff.1 h.r
theorem OkI.share {m : Int} {x : It} (h : OkI m x) (hm : 0 ≤ m) : 0 ≤ shareP x ∧ shareP x ≤ m * 2520 := by
  have hp := part_in h.r
  unfold shareP
  refine ⟨Int.mul_nonneg h.u0 hp.1, ?_⟩
  have h1 := Int.mul_le_mul_of_nonneg_right h.um hp.1
  have h2 := Int.mul_le_mul_of_nonneg_left hp.2 hm
  omega
theorem itB_ok {x : It} (h : itB x = true) : OkI 8 x := by
  obtain ⟨h1, h2, h3⟩ := itB_iff.1 h
  exact ⟨by omega, h2, rateB_iff.2 h3⟩
def OkIs (m : Int) (l : List It) : Prop := ∀ k, k < l.length → OkI m (l.getD k it0)
theorem parts_in {m : Int} {l : List It} (hm : 0 ≤ m) (h : OkIs m l) : ∀ k, k ≤ l.length → 0 ≤ partsTo l k ∧ partsTo l k ≤ (k : Int) * (m * 2520)
  | 0, _ => by simp [partsTo]
  | k + 1, hk => by
    have ih := parts_in hm h k (by omega)
    have := (h k (by omega)).share hm
    rw [partsTo]
    push_cast
    rw [Int.add_mul]
    omega
def allIt (p : It → Bool) (l : List It) : Nat → Bool
  | 0 => true
  | k + 1 => allIt p l k && p (l.getD k it0)
theorem allIt_iff {p : It → Bool} {l : List It} : ∀ {k : Nat}, allIt p l k = true ↔ ∀ i, i < k → p (l.getD i it0) = true
  | 0 => by simp [allIt]
  | k + 1 => by
    rw [allIt, Bool.and_eq_true, allIt_iff]
    constructor
    · rintro ⟨h1, h2⟩ i hi
      rcases Nat.lt_or_ge i k with h | h
      · exact h1 i h
      · rw [show i = k by omega]; exact h2
    · exact fun h => ⟨fun i hi => h i (by omega), h k (by omega)⟩
/-- The first error of a budget. -/
def valE (l : List It) : Int := if 6 < l.length then 3 else if allIt itB l l.length = true then 0 else 1
theorem valE_ok {l : List It} (h : valE l = 0) : l.length ≤ 6 ∧ ∀ k, k < l.length → itB (l.getD k it0) = true := by
  unfold valE at h
  split at h
  · cases h
  · split at h
    · rename_i h1 h2; exact ⟨by omega, allIt_iff.1 h2⟩
    · cases h
theorem val_ok {l : List It} (h : valE l = 0) : OkIs 8 l := fun k hk => itB_ok ((valE_ok h).2 k hk)
theorem parts_bound {l : List It} (h : valE l = 0) : 0 ≤ partsL l ∧ partsL l ≤ 120960 := by
  have := parts_in (by decide) (val_ok h) l.length (Nat.le_refl _)
  have hl := (valE_ok h).1
  have : (l.length : Int) * (8 * 2520) ≤ 6 * (8 * 2520) := Int.mul_le_mul_of_nonneg_right (by omega) (by decide)
  unfold partsL
  omega
/-- Limits. -/
def limB (n d : Int) : Bool := decide (1 ≤ d ∧ d ≤ 1000000) && decide (0 ≤ n ∧ n ≤ 1000000)
theorem limB_iff {n d : Int} : limB n d = true ↔ 1 ≤ d ∧ d ≤ 1000000 ∧ 0 ≤ n ∧ n ≤ 1000000 := by unfold limB; rw [Bool.and_eq_true, decide_eq_true_eq, decide_eq_true_eq]; omega
def closeB (l : List It) (n d : Int) : Bool := decide (partsL l * d ≤ n * 2520)
end Go.Proofs.Ytgbjglkiaoplmaa
