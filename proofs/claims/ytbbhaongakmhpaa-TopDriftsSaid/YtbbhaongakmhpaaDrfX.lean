/- Readings turned round, shifted, of the opposite value, without one; which add nothing. Lists and numbers alone. -/
import Derived.Test.YtbbhaongakmhpaaDrfT
namespace Go.Proofs.Ytbbhaongakmhpaa

theorem getD_map {f : T3 → T3} {l : List T3} {k : Nat} (hk : k < l.length) : (l.map f).getD k t0 = f (l.getD k t0) := by simp [hk]
theorem agree_same {l m : List T3} {r : Int} (h1 : agreeB l r = true ↔ agreeB m r = true) : agreeB l r = agreeB m r := by
  rcases ha : agreeB l r with _ | _
  · rcases hb : agreeB m r with _ | _
    · rfl
    · rw [h1.2 hb] at ha; cases ha
  · exact (h1.1 ha).symm

/- Time turned round. -/
def turnL (l : List T3) : List T3 := l.reverse.map fun a => (1000 - a.1, a.2.1, a.2.2)
@[simp] theorem turnL_length (l : List T3) : (turnL l).length = l.length := by simp [turnL]
theorem turn_get {l : List T3} {k : Nat} (hk : k < l.length) : (turnL l).getD k t0 = (1000 - tm l (l.length - 1 - k), lw l (l.length - 1 - k), hg l (l.length - 1 - k)) := by
  have h2 : l.length - 1 - k < l.length := by omega
  simp [turnL, hk, h2, tm, lw, hg]
theorem turn_t {l : List T3} {k : Nat} (hk : k < l.length) : tm (turnL l) k = 1000 - tm l (l.length - 1 - k) := by unfold tm; rw [turn_get hk]
theorem turn_l {l : List T3} {k : Nat} (hk : k < l.length) : lw (turnL l) k = lw l (l.length - 1 - k) := by unfold lw; rw [turn_get hk]
theorem turn_h {l : List T3} {k : Nat} (hk : k < l.length) : hg (turnL l) k = hg l (l.length - 1 - k) := by unfold hg; rw [turn_get hk]
theorem turn_ok {l : List T3} (hl : Ok l) : Ok (turnL l) := by
  refine ⟨by simpa using hl.ne, by simpa using hl.len, ?_, ?_, ?_, ?_, ?_, ?_⟩
  all_goals simp only [turnL_length]
  · intro k hk; rw [turn_t hk]; have := hl.t1 (l.length - 1 - k) (by omega); omega
  · intro k hk; rw [turn_t hk]; have := hl.t0 (l.length - 1 - k) (by omega); omega
  · intro k hk; rw [turn_l hk]; exact hl.lo _ (by omega)
  · intro k hk; rw [turn_h hk]; exact hl.hi _ (by omega)
  · intro k hk; rw [turn_l hk, turn_h hk]; exact hl.lh _ (by omega)
  · intro i k hik hk
    rw [turn_t hk, turn_t (by omega)]
    have := hl.inc (l.length - 1 - k) (l.length - 1 - i) (by omega) (by omega)
    omega
theorem far_turn (c a b : Int) : farI (c - a) (c - b) = farI a b := by unfold farI; omega
theorem turn_agree {l : List T3} {r : Int} (hl : Ok l) (hr : 0 ≤ r) : agreeB (turnL l) r = agreeB l r := by
  refine agree_same ?_
  rw [agree_iff (turn_ok hl) hr, agree_iff hl hr]
  simp only [turnL_length]
  constructor
  · intro h i k hi hk
    have := h (l.length - 1 - i) (l.length - 1 - k) (by omega) (by omega)
    rw [turn_l (by omega), turn_h (by omega), turn_t (by omega), turn_t (by omega), show l.length - 1 - (l.length - 1 - i) = i by omega, show l.length - 1 - (l.length - 1 - k) = k by omega, far_turn] at this
    exact this
  · intro h i k hi hk
    have := h (l.length - 1 - i) (l.length - 1 - k) (by omega) (by omega)
    rw [turn_l hi, turn_h hk, turn_t hi, turn_t hk, far_turn]
    exact this
theorem turn_low {l : List T3} {r : Int} (hl : Ok l) (t : Int) : lowB (turnL l) r (1000 - t) = lowB l r t := by
  refine Int.le_antisymm ((lowB_le (by simpa using hl.ne)).2 fun k hk => ?_) ((lowB_le hl.ne).2 fun k hk => ?_)
  · simp only [turnL_length] at hk
    rw [turn_l hk, turn_t hk, far_turn]
    exact lowB_ge (by omega)
  · have := lowB_ge (l := turnL l) (r := r) (t := 1000 - t) (k := l.length - 1 - k) (by simp; omega)
    rw [turn_l (by omega), turn_t (by omega), far_turn, show l.length - 1 - (l.length - 1 - k) = k by omega] at this
    exact this
theorem turn_high {l : List T3} {r : Int} (hl : Ok l) (t : Int) : highB (turnL l) r (1000 - t) = highB l r t := by
  refine Int.le_antisymm ((highB_ge hl.ne).2 fun k hk => ?_) ((highB_ge (by simpa using hl.ne)).2 fun k hk => ?_)
  · have := highB_le (l := turnL l) (r := r) (t := 1000 - t) (k := l.length - 1 - k) (by simp; omega)
    rw [turn_h (by omega), turn_t (by omega), far_turn, show l.length - 1 - (l.length - 1 - k) = k by omega] at this
    exact this
  · simp only [turnL_length] at hk
    rw [turn_h hk, turn_t hk, far_turn]
    exact highB_le (by omega)

/- Other times. -/
def shiftL (l : List T3) (b : Int) : List T3 := l.map fun a => (a.1 + b, a.2.1, a.2.2)
@[simp] theorem shiftL_length (l : List T3) (b : Int) : (shiftL l b).length = l.length := by simp [shiftL]
theorem shift_get {l : List T3} {b : Int} {k : Nat} (hk : k < l.length) : (shiftL l b).getD k t0 = (tm l k + b, lw l k, hg l k) := by simp [shiftL, tm, lw, hg, hk]
theorem shift_t {l : List T3} {b : Int} {k : Nat} (hk : k < l.length) : tm (shiftL l b) k = tm l k + b := by unfold tm; rw [shift_get hk]
theorem shift_l {l : List T3} {b : Int} {k : Nat} (hk : k < l.length) : lw (shiftL l b) k = lw l k := by unfold lw; rw [shift_get hk]
theorem shift_h {l : List T3} {b : Int} {k : Nat} (hk : k < l.length) : hg (shiftL l b) k = hg l k := by unfold hg; rw [shift_get hk]
theorem times_le {l : List T3} (hl : Ok l) {k : Nat} (hk : k < l.length) : tm l 0 ≤ tm l k ∧ tm l k ≤ tm l (l.length - 1) := by
  constructor
  · rcases Nat.eq_zero_or_pos k with h | h
    · subst h; exact Int.le_refl _
    · have := hl.inc 0 k h hk; omega
  · by_cases h : k = l.length - 1
    · rw [← h]; exact Int.le_refl _
    · have := hl.inc k (l.length - 1) (by omega) (by omega); omega
theorem shift_ok {l : List T3} {b : Int} (hl : Ok l) : Ok (shiftL l b) ↔ inB b (-(tm l 0)) (1000 - tm l (l.length - 1)) = true := by
  rw [inB_z]
  have h0 := hl.ne
  constructor
  · intro h
    have h1 := h.t0 0 (by simpa using h0)
    have h2 := h.t1 (l.length - 1) (by simp; omega)
    rw [shift_t h0] at h1
    rw [shift_t (by omega)] at h2
    omega
  · rintro ⟨h1, h2⟩
    refine ⟨by simpa using hl.ne, by simpa using hl.len, ?_, ?_, ?_, ?_, ?_, ?_⟩
    all_goals simp only [shiftL_length]
    · intro k hk; rw [shift_t hk]; have := times_le hl hk; omega
    · intro k hk; rw [shift_t hk]; have := times_le hl hk; omega
    · intro k hk; rw [shift_l hk]; exact hl.lo _ hk
    · intro k hk; rw [shift_h hk]; exact hl.hi _ hk
    · intro k hk; rw [shift_l hk, shift_h hk]; exact hl.lh _ hk
    · intro i k hik hk
      rw [shift_t hk, shift_t (by omega)]
      have := hl.inc i k hik hk
      omega
theorem shift_err {l : List T3} {b : Int} (hl : Ok l) : validE (shiftL l b) = if inB b (-(tm l 0)) (1000 - tm l (l.length - 1)) = true then 0 else 1 := by
  by_cases h : inB b (-(tm l 0)) (1000 - tm l (l.length - 1)) = true
  · rw [if_pos h]; exact validE_ok.2 ((shift_ok hl).2 h)
  · rw [if_neg h]
    have h1 := mt validE_ok.1 (mt (shift_ok hl).1 h)
    have h2 := hl.ne
    have h3 := hl.len
    unfold validE at h1 ⊢
    rw [if_pos ⟨by rw [shiftL_length]; exact h2, by rw [shiftL_length]; exact h3⟩] at h1 ⊢
    unfold readE at h1 ⊢
    split at h1
    · exact absurd rfl h1
    · rename_i h4; rw [if_neg h4]
theorem far_shift (a b c : Int) : farI (a + c) (b + c) = farI a b := by unfold farI; omega
theorem shift_agree {l : List T3} {r b : Int} (hl : Ok l) (hs : Ok (shiftL l b)) (hr : 0 ≤ r) : agreeB (shiftL l b) r = agreeB l r := by
  refine agree_same ?_
  rw [agree_iff hs hr, agree_iff hl hr]
  simp only [shiftL_length]
  constructor
  · intro h i k hi hk
    have := h i k hi hk
    rw [shift_l hi, shift_h hk, shift_t hi, shift_t hk, far_shift] at this
    exact this
  · intro h i k hi hk
    rw [shift_l hi, shift_h hk, shift_t hi, shift_t hk, far_shift]
    exact h i k hi hk

/- The opposite value. -/
def oppL (l : List T3) : List T3 := l.map fun a => (a.1, -a.2.2, -a.2.1)
@[simp] theorem oppL_length (l : List T3) : (oppL l).length = l.length := by simp [oppL]
theorem opp_get {l : List T3} {k : Nat} (hk : k < l.length) : (oppL l).getD k t0 = (tm l k, -hg l k, -lw l k) := by simp [oppL, tm, lw, hg, hk]
theorem opp_t {l : List T3} {k : Nat} (hk : k < l.length) : tm (oppL l) k = tm l k := by unfold tm; rw [opp_get hk]
theorem opp_l {l : List T3} {k : Nat} (hk : k < l.length) : lw (oppL l) k = -hg l k := by unfold lw; rw [opp_get hk]
theorem opp_h {l : List T3} {k : Nat} (hk : k < l.length) : hg (oppL l) k = -lw l k := by unfold hg; rw [opp_get hk]
theorem opp_ok {l : List T3} (hl : Ok l) : Ok (oppL l) := by
  refine ⟨by simpa using hl.ne, by simpa using hl.len, ?_, ?_, ?_, ?_, ?_, ?_⟩
  all_goals simp only [oppL_length]
  · intro k hk; rw [opp_t hk]; exact hl.t0 k hk
  · intro k hk; rw [opp_t hk]; exact hl.t1 k hk
  · intro k hk; rw [opp_l hk]; have := hl.hi k hk; omega
  · intro k hk; rw [opp_h hk]; have := hl.lo k hk; omega
  · intro k hk; rw [opp_l hk, opp_h hk]; have := hl.lh k hk; omega
  · intro i k hik hk; rw [opp_t hk, opp_t (by omega)]; exact hl.inc i k hik hk
theorem opp_agree {l : List T3} {r : Int} (hl : Ok l) (hr : 0 ≤ r) : agreeB (oppL l) r = agreeB l r := by
  refine agree_same ?_
  rw [agree_iff (opp_ok hl) hr, agree_iff hl hr]
  simp only [oppL_length]
  constructor
  · intro h i k hi hk
    have := h k i hk hi
    rw [opp_l hk, opp_h hi, opp_t hi, opp_t hk, farI_comm] at this
    omega
  · intro h i k hi hk
    rw [opp_l hi, opp_h hk, opp_t hi, opp_t hk]
    have := h k i hk hi
    rw [farI_comm] at this
    omega
theorem opp_low {l : List T3} {r : Int} (hl : Ok l) (t : Int) : lowB (oppL l) r t = -highB l r t := by
  refine Int.le_antisymm ((lowB_le (by simpa using hl.ne)).2 fun k hk => ?_) ?_
  · simp only [oppL_length] at hk
    rw [opp_l hk, opp_t hk]
    have := highB_le (r := r) (t := t) hk
    omega
  · have h : -lowB (oppL l) r t ≤ highB l r t := (highB_ge hl.ne).2 fun k hk => by
      have := lowB_ge (l := oppL l) (r := r) (t := t) (k := k) (by simpa using hk)
      rw [opp_l hk, opp_t hk] at this
      omega
    omega
theorem opp_high {l : List T3} {r : Int} (hl : Ok l) (t : Int) : highB (oppL l) r t = -lowB l r t := by
  refine Int.le_antisymm ?_ ((highB_ge (by simpa using hl.ne)).2 fun k hk => ?_)
  · have h : lowB l r t ≤ -highB (oppL l) r t := (lowB_le hl.ne).2 fun k hk => by
      have := highB_le (l := oppL l) (r := r) (t := t) (k := k) (by simpa using hk)
      rw [opp_h hk, opp_t hk] at this
      omega
    omega
  · simp only [oppL_length] at hk
    rw [opp_h hk, opp_t hk]
    have := lowB_ge (r := r) (t := t) hk
    omega

/- Without one. -/
def dropK (l : List T3) (k : Nat) : List T3 := l.take k ++ l.drop (k + 1)
theorem dropK_length {l : List T3} {k : Nat} (hk : k < l.length) : (dropK l k).length = l.length - 1 := by simp [dropK]; omega
/-- Which one it was. -/
def skip (k i : Nat) : Nat := if i < k then i else i + 1
theorem drop_get {l : List T3} {k i : Nat} (hk : k < l.length) (hi : i < l.length - 1) : (dropK l k).getD i t0 = l.getD (skip k i) t0 := by
  unfold skip dropK
  by_cases h : i < k
  · rw [if_pos h]
    have h1 : i < l.length := by omega
    simp [List.getElem?_append, h1, show i < min k l.length by omega]
  · rw [if_neg h]
    have h1 : i + 1 < l.length := by omega
    have h2 : min k l.length = k := by omega
    simp only [List.getD_eq_getElem?_getD, List.getElem?_append, List.length_take, h2, h, if_false, List.getElem?_drop]
    rw [show k + 1 + (i - k) = i + 1 by omega]
theorem skip_lt {l : List T3} {k i : Nat} (hi : i < l.length - 1) : skip k i < l.length := by unfold skip; split <;> omega
theorem skip_ne (k i : Nat) : skip k i ≠ k := by unfold skip; split <;> omega
theorem skip_mono {k i j : Nat} (h : i < j) : skip k i < skip k j := by unfold skip; split <;> split <;> omega
theorem skip_all {k j : Nat} (h : j ≠ k) : ∃ i, skip k i = j ∧ (∀ n, j < n → k < n → i < n - 1) := by
  unfold skip
  by_cases h1 : j < k
  · exact ⟨j, by simp [h1], fun n _ _ => by omega⟩
  · exact ⟨j - 1, by rw [if_neg (by omega)]; omega, fun n _ _ => by omega⟩
theorem drop_ok {l : List T3} {k : Nat} (hl : Ok l) (hk : k < l.length) (h2 : l.length ≠ 1) : Ok (dropK l k) := by
  have hlen := dropK_length hk
  have h8 := hl.len
  refine ⟨by omega, by omega, ?_, ?_, ?_, ?_, ?_, ?_⟩
  all_goals rw [hlen]
  · intro i hi; unfold tm; rw [drop_get hk hi]; exact hl.t0 _ (skip_lt hi)
  · intro i hi; unfold tm; rw [drop_get hk hi]; exact hl.t1 _ (skip_lt hi)
  · intro i hi; unfold lw; rw [drop_get hk hi]; exact hl.lo _ (skip_lt hi)
  · intro i hi; unfold hg; rw [drop_get hk hi]; exact hl.hi _ (skip_lt hi)
  · intro i hi; unfold lw hg; rw [drop_get hk hi]; exact hl.lh _ (skip_lt hi)
  · intro i j hij hj; unfold tm; rw [drop_get hk hj, drop_get hk (by omega)]; exact hl.inc _ _ (skip_mono hij) (skip_lt hj)
theorem drop_agree {l : List T3} {k : Nat} {r : Int} (hl : Ok l) (hk : k < l.length) (h2 : l.length ≠ 1) (hr : 0 ≤ r) (ha : agreeB l r = true) : agreeB (dropK l k) r = true := by
  rw [agree_iff (drop_ok hl hk h2) hr]
  intro i j hi hj
  rw [dropK_length hk] at hi hj
  unfold lw hg tm
  rw [drop_get hk hi, drop_get hk hj]
  exact (agree_iff hl hr).1 ha _ _ (skip_lt hi) (skip_lt hj)
theorem drop_low {l : List T3} {k : Nat} {r : Int} (hl : Ok l) (hk : k < l.length) (h2 : l.length ≠ 1) (t : Int) : lowB (dropK l k) r t ≤ lowB l r t := by
  refine (lowB_le (drop_ok hl hk h2).ne).2 fun i hi => ?_
  rw [dropK_length hk] at hi
  unfold lw tm
  rw [drop_get hk hi]
  exact lowB_ge (skip_lt hi)
theorem drop_high {l : List T3} {k : Nat} {r : Int} (hl : Ok l) (hk : k < l.length) (h2 : l.length ≠ 1) (t : Int) : highB l r t ≤ highB (dropK l k) r t := by
  refine (highB_ge (drop_ok hl hk h2).ne).2 fun i hi => ?_
  rw [dropK_length hk] at hi
  unfold hg tm
  rw [drop_get hk hi]
  exact highB_le (skip_lt hi)

/- Needless. -/
/-- Whether without reading k the bounds at the others' times stay. -/
def needlessB (l : List T3) (r : Int) (k : Nat) : Bool := decide (tightL (dropK l k) r = dropK (tightL l r) k)
def needTo (l : List T3) (r : Int) : Nat → List Int
  | 0 => []
  | k + 1 => if needlessB l r k then needTo l r k ++ [(k : Int)] else needTo l r k
def needL (l : List T3) (r : Int) : List Int := needTo l r l.length
theorem needless_iff {l : List T3} {r : Int} {k : Nat} (hk : k < l.length) : needlessB l r k = true ↔ ∀ j, j < l.length → j ≠ k → lowB (dropK l k) r (tm l j) = lowB l r (tm l j) ∧ highB (dropK l k) r (tm l j) = highB l r (tm l j) := by
  unfold needlessB
  rw [decide_eq_true_eq]
  have e1 : ∀ i, i < l.length - 1 → (tightL (dropK l k) r).getD i t0 = (tm l (skip k i), lowB (dropK l k) r (tm l (skip k i)), highB (dropK l k) r (tm l (skip k i))) := fun i hi => by
    rw [tight_get (by rw [dropK_length hk]; exact hi)]
    have : tm (dropK l k) i = tm l (skip k i) := by unfold tm; rw [drop_get hk hi]
    rw [this]
  have e2 : ∀ i, i < l.length - 1 → (dropK (tightL l r) k).getD i t0 = (tm l (skip k i), lowB l r (tm l (skip k i)), highB l r (tm l (skip k i))) := fun i hi => by
    rw [drop_get (by simpa using hk) (by simpa using hi), tight_get (skip_lt hi)]
  constructor
  · intro h j hj hne
    obtain ⟨i, hi, hlt⟩ := skip_all hne
    have hi2 := hlt l.length hj hk
    have := e1 i hi2
    rw [h, e2 i hi2, hi] at this
    injection this with _ h2
    injection h2 with h3 h4
    exact ⟨h3.symm, h4.symm⟩
  · intro h
    have e : ∀ m : List T3, ∀ i, ∀ h : i < m.length, m[i] = m.getD i t0 := fun m i h => by simp [h]
    refine List.ext_getElem (by rw [tightL_length, dropK_length hk, dropK_length (by simpa using hk), tightL_length]) fun i h1 h2 => ?_
    rw [tightL_length, dropK_length hk] at h1
    rw [e, e, e1 i h1, e2 i h1]
    obtain ⟨a, b⟩ := h (skip k i) (skip_lt h1) (skip_ne k i)
    rw [a, b]
end Go.Proofs.Ytbbhaongakmhpaa
