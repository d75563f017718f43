/- Readings of a value that drifts: which are right, which pairs clash, bounds by a rate, tracks, and what follows. Lists and numbers alone. -/
namespace Go.Proofs.Ytbbhaongakmhpaa

/-- Three numbers: a reading's Time, Low and High. -/
abbrev T3 := Int × Int × Int
def t0 : T3 := (0, 0, 0)

theorem getD_mem {l : List T3} {k : Nat} (h : k < l.length) : l.getD k t0 ∈ l := by simp [h]

def inB (n lo hi : Int) : Bool := decide (lo ≤ n) && decide (n ≤ hi)
theorem inB_z {n lo hi : Int} : inB n lo hi = true ↔ lo ≤ n ∧ n ≤ hi := by simp [inB]
theorem inB_no {n lo hi : Int} : inB n lo hi = false ↔ ¬ (lo ≤ n ∧ n ≤ hi) := by rw [← inB_z]; simp

abbrev tm (l : List T3) (k : Nat) : Int := (l.getD k t0).1
abbrev lw (l : List T3) (k : Nat) : Int := (l.getD k t0).2.1
abbrev hg (l : List T3) (k : Nat) : Int := (l.getD k t0).2.2

/-- Whether all of the first n are. -/
def allTo (f : Nat → Bool) : Nat → Bool
  | 0 => true
  | k + 1 => allTo f k && f k
theorem allTo_iff {f : Nat → Bool} : ∀ {n : Nat}, allTo f n = true ↔ ∀ k, k < n → f k = true
  | 0 => ⟨fun _ k hk => absurd hk (by omega), fun _ => rfl⟩
  | n + 1 => by
    simp only [allTo, Bool.and_eq_true]
    rw [allTo_iff (n := n)]
    constructor
    · rintro ⟨h1, h2⟩ k hk
      rcases Nat.lt_or_ge k n with h | h
      · exact h1 k h
      · obtain rfl : k = n := by omega
        exact h2
    · exact fun h => ⟨fun k hk => h k (by omega), h n (by omega)⟩
theorem allTo_no {f : Nat → Bool} {n k : Nat} (h : k < n) (hf : f k = false) : allTo f n = false := by
  rcases hb : allTo f n with _ | _
  · rfl
  · rw [allTo_iff.1 hb k h] at hf; cases hf

def rdB (a : T3) : Bool := inB a.1 0 1000 && inB a.2.1 (-1000) 1000 && inB a.2.2 (-1000) 1000 && decide (a.2.1 ≤ a.2.2)
def stepB (l : List T3) (k : Nat) : Bool := rdB (l.getD k t0) && (decide (k = 0) || decide (tm l (k - 1) < tm l k))
def readE (l : List T3) : Int := if allTo (stepB l) l.length then 0 else 1
def validE (l : List T3) : Int := if 1 ≤ l.length ∧ l.length ≤ 8 then readE l else 3

/-- Readings that are right. -/
structure Ok (l : List T3) : Prop where
  ne : 0 < l.length
  len : l.length ≤ 8
  t0 : ∀ k, k < l.length → 0 ≤ tm l k
  t1 : ∀ k, k < l.length → tm l k ≤ 1000
  lo : ∀ k, k < l.length → -1000 ≤ lw l k
  hi : ∀ k, k < l.length → hg l k ≤ 1000
  lh : ∀ k, k < l.length → lw l k ≤ hg l k
  inc : ∀ i k, i < k → k < l.length → tm l i < tm l k
theorem stepB_z {l : List T3} {k : Nat} : stepB l k = true ↔ (0 ≤ tm l k ∧ tm l k ≤ 1000 ∧ -1000 ≤ lw l k ∧ hg l k ≤ 1000 ∧ lw l k ≤ hg l k) ∧ (k = 0 ∨ tm l (k - 1) < tm l k) := by
  simp only [stepB, rdB, Bool.and_eq_true, inB_z, decide_eq_true_eq, Bool.or_eq_true]
  constructor
  · rintro ⟨⟨⟨⟨⟨h1, h2⟩, h3, h4⟩, h5, h6⟩, h7⟩, h8⟩
    exact ⟨⟨h1, h2, h3, h6, h7⟩, h8⟩
  · rintro ⟨⟨h1, h2, h3, h6, h7⟩, h8⟩
    exact ⟨⟨⟨⟨⟨h1, h2⟩, h3, Int.le_trans h7 h6⟩, Int.le_trans h3 h7, h6⟩, h7⟩, h8⟩
theorem validE_ok {l : List T3} : validE l = 0 ↔ Ok l := by
  unfold validE readE
  by_cases h : 1 ≤ l.length ∧ l.length ≤ 8
  · rw [if_pos h]
    by_cases h2 : allTo (stepB l) l.length = true
    · rw [if_pos h2]
      refine ⟨fun _ => ?_, fun _ => rfl⟩
      have h3 := fun k hk => stepB_z.1 (allTo_iff.1 h2 k hk)
      refine ⟨h.1, h.2, fun k hk => (h3 k hk).1.1, fun k hk => (h3 k hk).1.2.1, fun k hk => (h3 k hk).1.2.2.1, fun k hk => (h3 k hk).1.2.2.2.1, fun k hk => (h3 k hk).1.2.2.2.2, ?_⟩
      intro i k hik hk
      induction k with
      | zero => omega
      | succ k ih =>
        have h4 := (h3 (k + 1) hk).2
        rw [Nat.add_sub_cancel] at h4
        rcases Nat.lt_or_ge i k with h5 | h5
        · have := ih h5 (by omega); omega
        · obtain rfl : i = k := by omega
          omega
    · rw [if_neg h2]
      refine ⟨fun x => (by cases x), fun x => absurd ?_ h2⟩
      refine allTo_iff.2 fun k hk => stepB_z.2 ⟨⟨x.t0 k hk, x.t1 k hk, x.lo k hk, x.hi k hk, x.lh k hk⟩, ?_⟩
      rcases Nat.eq_zero_or_pos k with h0 | h0
      · exact .inl h0
      · exact .inr (x.inc _ _ (by omega) hk)
  · rw [if_neg h]
    exact ⟨fun x => (by cases x), fun x => absurd ⟨x.ne, x.len⟩ h⟩
theorem validE_cases (l : List T3) : validE l = 0 ∨ validE l = 1 ∨ validE l = 3 := by
  unfold validE readE
  split
  · split <;> simp
  · simp

/-- How far two numbers are apart. -/
def farI (a b : Int) : Int := max a b - min a b
theorem farI_abs (a b : Int) : farI a b = max (a - b) (b - a) := by unfold farI; omega
theorem farI_pos (a b : Int) : 0 ≤ farI a b := by unfold farI; omega
theorem farI_comm (a b : Int) : farI a b = farI b a := by unfold farI; omega
theorem farI_self (a : Int) : farI a a = 0 := by unfold farI; omega
theorem farI_tri (a b c : Int) : farI a c ≤ farI a b + farI b c := by unfold farI; omega
theorem farI_zero {a b : Int} : farI a b = 0 ↔ a = b := by unfold farI; omega
theorem way_tri {r : Int} (hr : 0 ≤ r) (a b c : Int) : r * farI a c ≤ r * farI a b + r * farI b c := by
  rw [← Int.mul_add]; exact Int.mul_le_mul_of_nonneg_left (farI_tri a b c) hr
theorem way_pos {r : Int} (hr : 0 ≤ r) (a b : Int) : 0 ≤ r * farI a b := Int.mul_nonneg hr (farI_pos a b)
theorem way_one {r : Int} (hr : 0 ≤ r) (a b : Int) : r * farI a (b + 1) ≤ r * farI a b + r := by
  have h := way_tri hr a b (b + 1)
  have h1 : farI b (b + 1) = 1 := by unfold farI; omega
  rw [h1, Int.mul_one] at h; exact h
theorem way_one' {r : Int} (hr : 0 ≤ r) (a b : Int) : r * farI a b ≤ r * farI a (b + 1) + r := by
  have h := way_tri hr a (b + 1) b
  have h1 : farI (b + 1) b = 1 := by unfold farI; omega
  rw [h1, Int.mul_one] at h; exact h
/-- Ways are small. -/
theorem way_le {r a b : Int} (h0 : 0 ≤ r) (h1 : r ≤ 9) (ha : 0 ≤ a) (ha1 : a ≤ 2000) (hb : 0 ≤ b) (hb1 : b ≤ 2000) : 0 ≤ r * farI a b ∧ r * farI a b ≤ 18000 := by
  refine ⟨way_pos h0 a b, ?_⟩
  have hf : farI a b ≤ 2000 := by unfold farI; omega
  have := Int.mul_le_mul h1 hf (farI_pos a b) (by omega)
  omega

/-- Whether two readings clash by a rate. -/
def clashB (r : Int) (a b : T3) : Bool := decide (r * farI a.1 b.1 < a.2.1 - b.2.2) || decide (r * farI a.1 b.1 < b.2.1 - a.2.2)
theorem clashB_no {r : Int} {a b : T3} : clashB r a b = false ↔ a.2.1 - b.2.2 ≤ r * farI a.1 b.1 ∧ b.2.1 - a.2.2 ≤ r * farI a.1 b.1 := by
  simp only [clashB, Bool.or_eq_false_iff, decide_eq_false_iff_not, Int.not_lt]
theorem clashB_comm (r : Int) (a b : T3) : clashB r a b = clashB r b a := by
  unfold clashB; rw [farI_comm b.1 a.1, Bool.or_comm]
theorem clashB_self {r : Int} {a : T3} (h : a.2.1 ≤ a.2.2) : clashB r a a = false := by
  rw [clashB_no, farI_self, Int.mul_zero]; omega

/-- The first one from k on, of g. -/
def rowF (f : Nat → Bool) : Nat → Nat → Option Nat
  | 0, _ => none
  | g + 1, k => if f k then some k else rowF f g (k + 1)
theorem rowF_none {f : Nat → Bool} : ∀ {g k : Nat}, rowF f g k = none ↔ ∀ j, k ≤ j → j < k + g → f j = false
  | 0, k => ⟨fun _ j h1 h2 => by omega, fun _ => rfl⟩
  | g + 1, k => by
    unfold rowF
    by_cases h : f k = true
    · rw [if_pos h]
      exact ⟨fun x => (by cases x), fun x => by have := x k (by omega) (by omega); rw [h] at this; cases this⟩
    · rw [if_neg h, rowF_none (g := g) (k := k + 1)]
      constructor
      · intro x j h1 h2
        rcases Nat.eq_or_lt_of_le h1 with rfl | h3
        · simpa using h
        · exact x j h3 (by omega)
      · exact fun x j h1 h2 => x j (by omega) (by omega)
theorem rowF_some {f : Nat → Bool} : ∀ {g k j : Nat}, rowF f g k = some j → k ≤ j ∧ j < k + g ∧ f j = true ∧ ∀ i, k ≤ i → i < j → f i = false
  | 0, k, j, h => by cases h
  | g + 1, k, j, h => by
    unfold rowF at h
    by_cases hf : f k = true
    · rw [if_pos hf] at h
      injection h with h
      subst h
      exact ⟨by omega, by omega, hf, fun i h1 h2 => by omega⟩
    · rw [if_neg hf] at h
      obtain ⟨h1, h2, h3, h4⟩ := rowF_some h
      refine ⟨by omega, by omega, h3, fun i hi hj => ?_⟩
      rcases Nat.eq_or_lt_of_le hi with rfl | h5
      · simpa using hf
      · exact h4 i h5 hj
/-- The first pair from row i on, of g rows. -/
def pairF (c : Nat → Nat → Bool) (n : Nat) : Nat → Nat → Option (Nat × Nat)
  | 0, _ => none
  | g + 1, i => match rowF (c i) (n - (i + 1)) (i + 1) with
    | some k => some (i, k)
    | none => pairF c n g (i + 1)
theorem pairF_none {c : Nat → Nat → Bool} {n : Nat} : ∀ {g i : Nat}, pairF c n g i = none ↔ ∀ j k, i ≤ j → j < i + g → j < k → k < n → c j k = false
  | 0, i => ⟨fun _ j _ h1 h2 => by omega, fun _ => rfl⟩
  | g + 1, i => by
    unfold pairF
    rcases h : rowF (c i) (n - (i + 1)) (i + 1) with _ | k
    · simp only
      rw [pairF_none (g := g) (i := i + 1)]
      rw [rowF_none] at h
      constructor
      · intro x j k h1 h2 h3 h4
        rcases Nat.eq_or_lt_of_le h1 with rfl | h5
        · exact h k (by omega) (by omega)
        · exact x j k h5 (by omega) h3 h4
      · exact fun x j k h1 h2 h3 h4 => x j k (by omega) (by omega) h3 h4
    · obtain ⟨h1, h2, h3, _⟩ := rowF_some h
      simp only
      refine ⟨fun x => (by cases x), fun x => ?_⟩
      rw [x i k (by omega) (by omega) (by omega) (by omega)] at h3
      cases h3
theorem pairF_some {c : Nat → Nat → Bool} {n : Nat} : ∀ {g i j k : Nat}, pairF c n g i = some (j, k) → i ≤ j ∧ j < i + g ∧ j < k ∧ k < n ∧ c j k = true
  | 0, i, j, k, h => by cases h
  | g + 1, i, j, k, h => by
    unfold pairF at h
    rcases hr : rowF (c i) (n - (i + 1)) (i + 1) with _ | m
    · rw [hr] at h
      obtain ⟨h1, h2, h3, h4, h5⟩ := pairF_some h
      exact ⟨by omega, by omega, h3, h4, h5⟩
    · rw [hr] at h
      injection h with h
      injection h with e1 e2
      subst e1 e2
      obtain ⟨h1, h2, h3, _⟩ := rowF_some hr
      exact ⟨by omega, by omega, by omega, by omega, h3⟩

def cl (l : List T3) (r : Int) (i k : Nat) : Bool := clashB r (l.getD i t0) (l.getD k t0)
def pairO (l : List T3) (r : Int) : Option (Nat × Nat) := pairF (cl l r) l.length l.length 0
def agreeB (l : List T3) (r : Int) : Bool := (pairO l r).isNone
theorem agreeB_z {l : List T3} {r : Int} : agreeB l r = true ↔ ∀ i k, i < k → k < l.length → cl l r i k = false := by
  unfold agreeB pairO
  rw [Option.isNone_iff_eq_none, pairF_none]
  exact ⟨fun h i k h1 h2 => h i k (by omega) (by omega) h1 h2, fun h i k _ _ h1 h2 => h i k h1 h2⟩
/-- Readings that agree: each low is at most each high and the way. -/
theorem agree_iff {l : List T3} {r : Int} (hl : Ok l) (hr : 0 ≤ r) : agreeB l r = true ↔ ∀ i k, i < l.length → k < l.length → lw l i - hg l k ≤ r * farI (tm l i) (tm l k) := by
  rw [agreeB_z]
  constructor
  · intro h i k hi hk
    rcases Nat.lt_trichotomy i k with h1 | h1 | h1
    · exact (clashB_no.1 (h i k h1 hk)).1
    · subst h1
      have := hl.lh i hi
      have := way_pos hr (tm l i) (tm l i)
      omega
    · have := (clashB_no.1 (h k i h1 hi)).2
      rw [farI_comm] at this
      exact this
  · intro h i k hik hk
    refine clashB_no.2 ⟨h i k (by omega) hk, ?_⟩
    have := h k i hk (by omega)
    rw [farI_comm] at this
    exact this
theorem agreeB_none {l : List T3} {r : Int} : agreeB l r = true ↔ pairO l r = none := by unfold agreeB; simp
theorem agreeB_some {l : List T3} {r : Int} : agreeB l r = false ↔ ∃ i k, pairO l r = some (i, k) := by
  unfold agreeB
  rcases pairO l r with _ | ⟨i, k⟩
  · simp
  · simp
theorem pairO_some {l : List T3} {r : Int} {i k : Nat} (h : pairO l r = some (i, k)) : i < k ∧ k < l.length ∧ cl l r i k = true := by
  obtain ⟨_, _, h1, h2, h3⟩ := pairF_some h
  exact ⟨h1, h2, h3⟩
theorem agreeB_clash {l : List T3} {r : Int} (hl : Ok l) {i k : Nat} (hi : i < l.length) (hk : k < l.length) (h : cl l r i k = true) : agreeB l r = false := by
  rcases ha : agreeB l r with _ | _
  · rfl
  · rw [agreeB_z] at ha
    rcases Nat.lt_trichotomy i k with h1 | h1 | h1
    · rw [ha i k h1 hk] at h; cases h
    · subst h1
      have := clashB_self (r := r) (hl.lh i hi)
      unfold cl at h
      rw [this] at h; cases h
    · have h2 := ha k i h1 hi
      unfold cl at h h2
      rw [clashB_comm, h] at h2
      cases h2

/- Bounds. -/
def lowTo (l : List T3) (r t : Int) : Nat → Int
  | 0 => lw l 0 - r * farI (tm l 0) t
  | k + 1 => max (lowTo l r t k) (lw l (k + 1) - r * farI (tm l (k + 1)) t)
def highTo (l : List T3) (r t : Int) : Nat → Int
  | 0 => hg l 0 + r * farI (tm l 0) t
  | k + 1 => min (highTo l r t k) (hg l (k + 1) + r * farI (tm l (k + 1)) t)
def lowB (l : List T3) (r t : Int) : Int := lowTo l r t (l.length - 1)
def highB (l : List T3) (r t : Int) : Int := highTo l r t (l.length - 1)
theorem lowTo_le {l : List T3} {r t : Int} : ∀ {n : Nat} {x : Int}, lowTo l r t n ≤ x ↔ ∀ k, k ≤ n → lw l k - r * farI (tm l k) t ≤ x
  | 0, x => ⟨fun h k hk => by obtain rfl : k = 0 := by omega
                              exact h, fun h => h 0 (by omega)⟩
  | n + 1, x => by
    have ih := lowTo_le (l := l) (r := r) (t := t) (n := n) (x := x)
    simp only [lowTo]
    constructor
    · intro h k hk
      rcases Nat.lt_or_ge n k with h1 | h1
      · obtain rfl : k = n + 1 := by omega
        omega
      · exact ih.1 (by omega) k h1
    · intro h
      have h1 := ih.2 fun k hk => h k (by omega)
      have h2 := h (n + 1) (by omega)
      omega
theorem highTo_ge {l : List T3} {r t : Int} : ∀ {n : Nat} {x : Int}, x ≤ highTo l r t n ↔ ∀ k, k ≤ n → x ≤ hg l k + r * farI (tm l k) t
  | 0, x => ⟨fun h k hk => by obtain rfl : k = 0 := by omega
                              exact h, fun h => h 0 (by omega)⟩
  | n + 1, x => by
    have ih := highTo_ge (l := l) (r := r) (t := t) (n := n) (x := x)
    simp only [highTo]
    constructor
    · intro h k hk
      rcases Nat.lt_or_ge n k with h1 | h1
      · obtain rfl : k = n + 1 := by omega
        omega
      · exact ih.1 (by omega) k h1
    · intro h
      have h1 := ih.2 fun k hk => h k (by omega)
      have h2 := h (n + 1) (by omega)
      omega
theorem lowB_le {l : List T3} {r t x : Int} (hl : 0 < l.length) : lowB l r t ≤ x ↔ ∀ k, k < l.length → lw l k - r * farI (tm l k) t ≤ x := by
  unfold lowB
  rw [lowTo_le]
  exact ⟨fun h k hk => h k (by omega), fun h k hk => h k (by omega)⟩
theorem highB_ge {l : List T3} {r t x : Int} (hl : 0 < l.length) : x ≤ highB l r t ↔ ∀ k, k < l.length → x ≤ hg l k + r * farI (tm l k) t := by
  unfold highB
  rw [highTo_ge]
  exact ⟨fun h k hk => h k (by omega), fun h k hk => h k (by omega)⟩
theorem lowB_ge {l : List T3} {r t : Int} {k : Nat} (hk : k < l.length) : lw l k - r * farI (tm l k) t ≤ lowB l r t := (lowB_le (x := lowB l r t) (by omega)).1 (Int.le_refl _) k hk
theorem highB_le {l : List T3} {r t : Int} {k : Nat} (hk : k < l.length) : highB l r t ≤ hg l k + r * farI (tm l k) t := (highB_ge (x := highB l r t) (by omega)).1 (Int.le_refl _) k hk
theorem lowB_own {l : List T3} {r : Int} {k : Nat} (hk : k < l.length) : lw l k ≤ lowB l r (tm l k) := by
  have := lowB_ge (r := r) (t := tm l k) hk
  rw [farI_self, Int.mul_zero] at this; omega
theorem highB_own {l : List T3} {r : Int} {k : Nat} (hk : k < l.length) : highB l r (tm l k) ≤ hg l k := by
  have := highB_le (r := r) (t := tm l k) hk
  rw [farI_self, Int.mul_zero] at this; omega
/-- Bounds at another time are no farther than the way. -/
theorem lowB_way {l : List T3} {r : Int} (hl : Ok l) (hr : 0 ≤ r) (s t : Int) : lowB l r t ≤ lowB l r s + r * farI t s := by
  refine (lowB_le hl.ne).2 fun k hk => ?_
  have h1 := lowB_ge (r := r) (t := s) hk
  have h2 := way_tri hr (tm l k) t s
  omega
theorem highB_way {l : List T3} {r : Int} (hl : Ok l) (hr : 0 ≤ r) (s t : Int) : highB l r s ≤ highB l r t + r * farI t s := by
  have h : highB l r s - r * farI t s ≤ highB l r t := by
    refine (highB_ge hl.ne).2 fun k hk => ?_
    have h1 := highB_le (r := r) (t := s) hk
    have h2 := way_tri hr (tm l k) t s
    omega
  omega
theorem low_high {l : List T3} {r : Int} (hl : Ok l) (hr : 0 ≤ r) (ha : agreeB l r = true) (t : Int) : lowB l r t ≤ highB l r t := by
  refine (lowB_le hl.ne).2 fun i hi => ?_
  have h : lw l i - r * farI (tm l i) t ≤ highB l r t := by
    refine (highB_ge hl.ne).2 fun k hk => ?_
    have h1 := (agree_iff hl hr).1 ha i k hi hk
    have h2 := way_tri hr (tm l i) t (tm l k)
    rw [farI_comm t (tm l k)] at h2
    omega
  omega
theorem low_most {l : List T3} {r : Int} (hl : Ok l) (hr : 0 ≤ r) (t : Int) : lowB l r t ≤ 1000 := by
  refine (lowB_le hl.ne).2 fun k hk => ?_
  have h1 := hl.lh k hk
  have h2 := hl.hi k hk
  have h3 := way_pos hr (tm l k) t
  omega
theorem high_least {l : List T3} {r : Int} (hl : Ok l) (hr : 0 ≤ r) (t : Int) : -1000 ≤ highB l r t := by
  refine (highB_ge hl.ne).2 fun k hk => ?_
  have h1 := hl.lh k hk
  have h2 := hl.lo k hk
  have h3 := way_pos hr (tm l k) t
  omega
/-- Bounds are small. -/
theorem bounds_small {l : List T3} {r t : Int} (hl : Ok l) (hr : 0 ≤ r) (h9 : r ≤ 9) (ht : 0 ≤ t) (ht2 : t ≤ 2000) : -19000 ≤ lowB l r t ∧ lowB l r t ≤ 1000 ∧ -1000 ≤ highB l r t ∧ highB l r t ≤ 19000 := by
  refine ⟨?_, low_most hl hr t, high_least hl hr t, ?_⟩
  · have h1 := lowB_ge (r := r) (t := t) hl.ne
    have h2 := hl.lo 0 hl.ne
    have h3 := (way_le hr h9 (hl.t0 0 hl.ne) (by have := hl.t1 0 hl.ne; omega) ht ht2).2
    omega
  · have h1 := highB_le (r := r) (t := t) hl.ne
    have h2 := hl.hi 0 hl.ne
    have h3 := (way_le hr h9 (hl.t0 0 hl.ne) (by have := hl.t1 0 hl.ne; omega) ht ht2).2
    omega
end Go.Proofs.Ytbbhaongakmhpaa
