/- Tight readings, tracks, and until when the width is small. Lists and numbers alone. -/
import Derived.Test.YtbbhaongakmhpaaDrfM
namespace Go.Proofs.Ytbbhaongakmhpaa

def tightL (l : List T3) (r : Int) : List T3 := l.map fun a => (a.1, lowB l r a.1, highB l r a.1)
@[simp] theorem tightL_length (l : List T3) (r : Int) : (tightL l r).length = l.length := by simp [tightL]
theorem tight_get {l : List T3} {r : Int} {k : Nat} (hk : k < l.length) : (tightL l r).getD k t0 = (tm l k, lowB l r (tm l k), highB l r (tm l k)) := by simp [tightL, tm, hk]
theorem tight_ok {l : List T3} {r : Int} (hl : Ok l) (hr : 0 ≤ r) (ha : agreeB l r = true) : Ok (tightL l r) := by
  refine ⟨by simpa using hl.ne, by simpa using hl.len, ?_, ?_, ?_, ?_, ?_, ?_⟩
  all_goals simp only [tightL_length]
  · intro k hk; unfold tm; rw [tight_get hk]; exact hl.t0 k hk
  · intro k hk; unfold tm; rw [tight_get hk]; exact hl.t1 k hk
  · intro k hk; unfold lw; rw [tight_get hk]; exact Int.le_trans (hl.lo k hk) (lowB_own hk)
  · intro k hk; unfold hg; rw [tight_get hk]; exact Int.le_trans (highB_own hk) (hl.hi k hk)
  · intro k hk; unfold lw hg; rw [tight_get hk]; exact low_high hl hr ha _
  · intro i k hik hk; unfold tm; rw [tight_get hk, tight_get (by omega)]; exact hl.inc i k hik hk
theorem tight_agree {l : List T3} {r : Int} (hl : Ok l) (hr : 0 ≤ r) (ha : agreeB l r = true) : agreeB (tightL l r) r = true := by
  rw [agree_iff (tight_ok hl hr ha) hr]
  intro i k hi hk
  simp only [tightL_length] at hi hk
  unfold lw hg tm
  rw [tight_get hi, tight_get hk]
  show lowB l r (tm l i) - highB l r (tm l k) ≤ r * farI (tm l i) (tm l k)
  have h1 := lowB_way hl hr (tm l k) (tm l i)
  have h2 := low_high hl hr ha (tm l k)
  omega
theorem tight_low {l : List T3} {r : Int} (hl : Ok l) (hr : 0 ≤ r) {k : Nat} (hk : k < l.length) : lowB (tightL l r) r (tm l k) = lowB l r (tm l k) := by
  refine Int.le_antisymm ((lowB_le (by simpa using hl.ne)).2 fun i hi => ?_) ?_
  · simp only [tightL_length] at hi
    unfold lw tm
    rw [tight_get hi]
    show lowB l r (tm l i) - r * farI (tm l i) (tm l k) ≤ lowB l r (tm l k)
    have := lowB_way hl hr (tm l k) (tm l i)
    omega
  · have h := lowB_own (l := tightL l r) (r := r) (k := k) (by simpa using hk)
    unfold lw tm at h
    rw [tight_get hk] at h
    exact h
theorem tight_high {l : List T3} {r : Int} (hl : Ok l) (hr : 0 ≤ r) {k : Nat} (hk : k < l.length) : highB (tightL l r) r (tm l k) = highB l r (tm l k) := by
  refine Int.le_antisymm ?_ ((highB_ge (by simpa using hl.ne)).2 fun i hi => ?_)
  · have h := highB_own (l := tightL l r) (r := r) (k := k) (by simpa using hk)
    unfold hg tm at h
    rw [tight_get hk] at h
    exact h
  · simp only [tightL_length] at hi
    unfold hg tm
    rw [tight_get hi]
    show highB l r (tm l k) ≤ highB l r (tm l i) + r * farI (tm l i) (tm l k)
    have := highB_way hl hr (tm l k) (tm l i)
    omega
/-- They cannot be made tighter. -/
theorem tight_again {l : List T3} {r : Int} (hl : Ok l) (hr : 0 ≤ r) : tightL (tightL l r) r = tightL l r := by
  refine List.ext_getElem (by simp) fun k h1 h2 => ?_
  simp only [tightL_length] at h2
  have e : ∀ m : List T3, ∀ h : k < m.length, m[k] = m.getD k t0 := fun m h => by simp [h]
  rw [e, e, tight_get (by simpa using h2), tight_get h2]
  have ht : tm (tightL l r) k = tm l k := by unfold tm; rw [tight_get h2]
  rw [ht, tight_low hl hr h2, tight_high hl hr h2]

/- Tracks. -/
def timesI (l : List T3) : Int := tm l (l.length - 1) - tm l 0 + 1
theorem times_pos {l : List T3} (hl : Ok l) : 1 ≤ timesI l ∧ timesI l ≤ 1001 := by
  unfold timesI
  have h0 := hl.ne
  have h1 := hl.t1 (l.length - 1) (by omega)
  have h2 := hl.t0 0 h0
  by_cases h : l.length = 1
  · rw [h]; simp
  · have := hl.inc 0 (l.length - 1) (by omega) (by omega)
    omega
theorem time_in {l : List T3} (hl : Ok l) {k : Nat} (hk : k < l.length) : 0 ≤ tm l k - tm l 0 ∧ tm l k - tm l 0 < timesI l := by
  unfold timesI
  have h0 := hl.ne
  constructor
  · rcases Nat.eq_zero_or_pos k with h | h
    · subst h; omega
    · have := hl.inc 0 k h hk; omega
  · by_cases h : k = l.length - 1
    · subst h; omega
    · have := hl.inc k (l.length - 1) (by omega) (by omega); omega
def trackV (l : List T3) (r : Int) (k : Nat) : Int := max (lowB l r (tm l 0 + (k : Int))) (-1000)
def trackL (l : List T3) (r : Int) : List Int := (List.range (timesI l).toNat).map (trackV l r)
theorem trackL_length (l : List T3) (r : Int) : (trackL l r).length = (timesI l).toNat := by simp [trackL]
theorem trackL_get {l : List T3} {r : Int} {k : Nat} (hk : k < (timesI l).toNat) : (trackL l r).getD k 0 = trackV l r k := by simp [trackL, hk]

def rangeT (tr : List Int) (k : Nat) : Bool := inB (tr.getD k 0) (-1000) 1000
def stepT (tr : List Int) (r : Int) (k : Nat) : Bool := decide (k = 0) || decide (farI (tr.getD (k - 1) 0) (tr.getD k 0) ≤ r)
def meetT (l : List T3) (tr : List Int) (k : Nat) : Bool := inB (tr.getD (tm l k - tm l 0).toNat 0) (lw l k) (hg l k)
def keepE (l : List T3) (r : Int) (tr : List Int) : Int :=
  if (tr.length : Int) = timesI l then
    if allTo (rangeT tr) tr.length = true then
      if allTo (stepT tr r) tr.length = true then
        if allTo (meetT l tr) l.length = true then 0 else 7
      else 8
    else 1
  else 1
/-- A track that keeps all. -/
structure Keeps (l : List T3) (r : Int) (tr : List Int) : Prop where
  len : (tr.length : Int) = timesI l
  rng : ∀ k, k < tr.length → -1000 ≤ tr.getD k 0 ∧ tr.getD k 0 ≤ 1000
  stp : ∀ k, k + 1 < tr.length → farI (tr.getD k 0) (tr.getD (k + 1) 0) ≤ r
  met : ∀ k, k < l.length → lw l k ≤ tr.getD (tm l k - tm l 0).toNat 0 ∧ tr.getD (tm l k - tm l 0).toNat 0 ≤ hg l k
theorem keepE_zero {l : List T3} {r : Int} {tr : List Int} : keepE l r tr = 0 ↔ Keeps l r tr := by
  unfold keepE
  constructor
  · intro h
    split at h
    · rename_i h1
      split at h
      · rename_i h2
        split at h
        · rename_i h3
          split at h
          · rename_i h4
            refine ⟨h1, fun k hk => inB_z.1 (allTo_iff.1 h2 k hk), fun k hk => ?_, fun k hk => inB_z.1 (allTo_iff.1 h4 k hk)⟩
            have := allTo_iff.1 h3 (k + 1) hk
            simp only [stepT, Nat.add_sub_cancel, Bool.or_eq_true, decide_eq_true_eq] at this
            rcases this with h | h
            · omega
            · exact h
          · cases h
        · cases h
      · cases h
    · cases h
  · rintro ⟨h1, h2, h3, h4⟩
    have H2 : allTo (rangeT tr) tr.length = true := allTo_iff.2 fun k hk => inB_z.2 (h2 k hk)
    have H4 : allTo (meetT l tr) l.length = true := allTo_iff.2 fun k hk => inB_z.2 (h4 k hk)
    rw [if_pos h1, if_pos H2, if_pos, if_pos H4]
    refine allTo_iff.2 fun k hk => ?_
    simp only [stepT, Bool.or_eq_true, decide_eq_true_eq]
    rcases Nat.eq_zero_or_pos k with h | h
    · exact .inl h
    · have := h3 (k - 1) (by omega)
      rw [show k - 1 + 1 = k by omega] at this
      exact .inr this
theorem track_keeps {l : List T3} {r : Int} (hl : Ok l) (hr : 0 ≤ r) (ha : agreeB l r = true) : Keeps l r (trackL l r) := by
  have hp := times_pos hl
  refine ⟨by rw [trackL_length]; omega, fun k hk => ?_, fun k hk => ?_, fun k hk => ?_⟩
  · rw [trackL_length] at hk
    rw [trackL_get hk]
    have := low_most hl hr (tm l 0 + (k : Int))
    unfold trackV; omega
  · rw [trackL_length] at hk
    rw [trackL_get hk, trackL_get (by omega)]
    have h1 := lowB_way hl hr (tm l 0 + (k : Int)) (tm l 0 + (k : Int) + 1)
    have h2 := lowB_way hl hr (tm l 0 + (k : Int) + 1) (tm l 0 + (k : Int))
    have h3 : farI (tm l 0 + (k : Int) + 1) (tm l 0 + (k : Int)) = 1 := by unfold farI; omega
    have h4 : farI (tm l 0 + (k : Int)) (tm l 0 + (k : Int) + 1) = 1 := by unfold farI; omega
    rw [h3, Int.mul_one] at h1
    rw [h4, Int.mul_one] at h2
    unfold trackV farI
    rw [show tm l 0 + ((k + 1 : Nat) : Int) = tm l 0 + (k : Int) + 1 by omega]
    omega
  · obtain ⟨h1, h2⟩ := time_in hl hk
    rw [trackL_get (by omega)]
    unfold trackV
    rw [Int.toNat_of_nonneg h1, show tm l 0 + (tm l k - tm l 0) = tm l k by omega]
    have h3 := lowB_own (r := r) hk
    have h4 := low_high hl hr ha (tm l k)
    have h5 := highB_own (r := r) hk
    have h6 := hl.lo k hk
    have h7 := hl.lh k hk
    omega
/-- Numbers of a track are as near as their times. -/
theorem keeps_far {l : List T3} {r : Int} {tr : List Int} (hr : 0 ≤ r) (h : Keeps l r tr) : ∀ d i, i + d < tr.length → farI (tr.getD i 0) (tr.getD (i + d) 0) ≤ r * (d : Int)
  | 0, i, _ => by rw [Nat.add_zero, farI_self]; simp
  | d + 1, i, hi => by
    have h1 := keeps_far hr h d i (by omega)
    have h2 := h.stp (i + d) (by omega)
    have h3 := farI_tri (tr.getD i 0) (tr.getD (i + d) 0) (tr.getD (i + d + 1) 0)
    rw [show ((d + 1 : Nat) : Int) = (d : Int) + 1 by omega, Int.mul_add, Int.mul_one, ← Nat.add_assoc]
    omega
theorem keeps_way {l : List T3} {r : Int} {tr : List Int} (hr : 0 ≤ r) (h : Keeps l r tr) {i k : Nat} (hi : i < tr.length) (hk : k < tr.length) : farI (tr.getD i 0) (tr.getD k 0) ≤ r * farI (i : Int) (k : Int) := by
  rcases Nat.le_total i k with h1 | h1
  · have := keeps_far hr h (k - i) i (by omega)
    rw [show i + (k - i) = k by omega] at this
    rw [show farI (i : Int) (k : Int) = ((k - i : Nat) : Int) by unfold farI; omega]
    exact this
  · have := keeps_far hr h (i - k) k (by omega)
    rw [show k + (i - k) = i by omega, farI_comm] at this
    rw [show farI (i : Int) (k : Int) = ((i - k : Nat) : Int) by unfold farI; omega]
    exact this
theorem keeps_bounds {l : List T3} {r : Int} {tr : List Int} (hl : Ok l) (hr : 0 ≤ r) (h : Keeps l r tr) {i : Nat} (hi : i < tr.length) : lowB l r (tm l 0 + (i : Int)) ≤ tr.getD i 0 ∧ tr.getD i 0 ≤ highB l r (tm l 0 + (i : Int)) := by
  have key : ∀ k, k < l.length → farI (tr.getD (tm l k - tm l 0).toNat 0) (tr.getD i 0) ≤ r * farI (tm l k) (tm l 0 + (i : Int)) := fun k hk => by
    obtain ⟨h1, h2⟩ := time_in hl hk
    have hlen := h.len
    have := keeps_way hr h (i := (tm l k - tm l 0).toNat) (k := i) (by omega) hi
    rw [show farI (tm l k) (tm l 0 + (i : Int)) = farI ((tm l k - tm l 0).toNat : Int) (i : Int) by unfold farI; omega]
    exact this
  constructor
  · refine (lowB_le hl.ne).2 fun k hk => ?_
    have h1 := key k hk
    have h2 := (h.met k hk).1
    unfold farI at h1 ⊢
    omega
  · refine (highB_ge hl.ne).2 fun k hk => ?_
    have h1 := key k hk
    have h2 := (h.met k hk).2
    unfold farI at h1 ⊢
    omega
theorem keeps_agree {l : List T3} {r : Int} {tr : List Int} (hl : Ok l) (hr : 0 ≤ r) (h : Keeps l r tr) : agreeB l r = true := by
  rw [agree_iff hl hr]
  intro i k hi hk
  obtain ⟨h1, h2⟩ := time_in hl hi
  obtain ⟨h3, h4⟩ := time_in hl hk
  have hlen := h.len
  have := keeps_way hr h (i := (tm l i - tm l 0).toNat) (k := (tm l k - tm l 0).toNat) (by omega) (by omega)
  have e : farI (tm l i) (tm l k) = farI ((tm l i - tm l 0).toNat : Int) ((tm l k - tm l 0).toNat : Int) := by unfold farI; omega
  have a1 := (h.met i hi).1
  have a2 := (h.met k hk).2
  rw [e]
  unfold farI at this ⊢
  omega
/-- The track of the lowest numbers keeps the tight readings, too. -/
theorem track_tight {l : List T3} {r : Int} (hl : Ok l) (hr : 0 ≤ r) (ha : agreeB l r = true) : Keeps (tightL l r) r (trackL l r) := by
  have h := track_keeps hl hr ha
  have ht : ∀ k, k < l.length → tm (tightL l r) k = tm l k := fun k hk => by unfold tm; rw [tight_get hk]
  have h0 := hl.ne
  refine ⟨?_, h.rng, h.stp, fun k hk => ?_⟩
  · rw [h.len]; unfold timesI; rw [tightL_length, ht _ (by omega), ht _ h0]
  · rw [tightL_length] at hk
    rw [ht k hk, ht 0 h0]
    unfold lw hg
    rw [tight_get hk]
    show lowB l r (tm l k) ≤ _ ∧ _ ≤ highB l r (tm l k)
    obtain ⟨h1, h2⟩ := time_in hl hk
    have hlen := h.len
    have := keeps_bounds hl hr h (i := (tm l k - tm l 0).toNat) (by omega)
    rw [Int.toNat_of_nonneg h1, show tm l 0 + (tm l k - tm l 0) = tm l k by omega] at this
    exact this

/- Until when. -/
def widL (l : List T3) (r t : Int) : Int := highB l r t - lowB l r t
def lastT (l : List T3) : Int := tm l (l.length - 1)
theorem last_le {l : List T3} (hl : Ok l) : 0 ≤ lastT l ∧ lastT l ≤ 1000 := ⟨hl.t0 _ (by have := hl.ne; omega), hl.t1 _ (by have := hl.ne; omega)⟩
theorem wid_next {l : List T3} {r t : Int} (hl : Ok l) (hr : 0 ≤ r) (ht : lastT l ≤ t) : widL l r t ≤ widL l r (t + 1) := by
  have hk : ∀ k, k < l.length → tm l k ≤ t := fun k hk => by
    unfold lastT at ht
    by_cases h : k = l.length - 1
    · rw [h]; exact ht
    · have := hl.inc k (l.length - 1) (by omega) (by omega); omega
  have e : ∀ k, k < l.length → r * farI (tm l k) (t + 1) = r * farI (tm l k) t + r := fun k h => by
    have := hk k h
    rw [show farI (tm l k) (t + 1) = farI (tm l k) t + 1 by unfold farI; omega, Int.mul_add, Int.mul_one]
  have h1 : highB l r t ≤ highB l r (t + 1) := (highB_ge hl.ne).2 fun k h => by
    have := highB_le (r := r) (t := t) h
    rw [e k h]; omega
  have h2 : lowB l r (t + 1) ≤ lowB l r t := (lowB_le hl.ne).2 fun k h => by
    have := lowB_ge (r := r) (t := t) h
    rw [e k h]; omega
  unfold widL; omega
def lastF (l : List T3) (r w : Int) : Nat → Int → Int × Bool → Int × Bool
  | 0, _, acc => acc
  | g + 1, t, acc => lastF l r w g (t + 1) (if widL l r t ≤ w then (t, true) else acc)
def whF (l : List T3) (r w : Int) : Nat → Int → Int
  | 0, t => t
  | g + 1, t => if widL l r (t + 1) ≤ w then whF l r w g (t + 1) else t
theorem lastF_gt {l : List T3} {r w : Int} (hl : Ok l) (hr : 0 ≤ r) : ∀ (g : Nat) (t : Int) (acc : Int × Bool), lastT l ≤ t → w < widL l r t → lastF l r w g t acc = acc
  | 0, _, _, _, _ => rfl
  | g + 1, t, acc, ht, hw => by
    have := wid_next hl hr ht
    unfold lastF
    rw [if_neg (by omega)]
    exact lastF_gt hl hr g (t + 1) acc (by omega) (by omega)
theorem lastF_le {l : List T3} {r w : Int} (hl : Ok l) (hr : 0 ≤ r) : ∀ (g : Nat) (t : Int) (acc : Int × Bool), lastT l ≤ t → widL l r t ≤ w → lastF l r w (g + 1) t acc = (whF l r w g t, true)
  | 0, t, acc, _, hw => by simp [lastF, whF, hw]
  | g + 1, t, acc, ht, hw => by
    unfold lastF
    rw [if_pos hw]
    by_cases h : widL l r (t + 1) ≤ w
    · rw [lastF_le hl hr g (t + 1) _ (by omega) h]
      simp [whF, h]
    · rw [lastF_gt hl hr (g + 1) (t + 1) _ (by omega) (by omega)]
      simp [whF, h]
theorem whF_in {l : List T3} {r w : Int} : ∀ (g : Nat) (t : Int), widL l r t ≤ w → t ≤ whF l r w g t ∧ whF l r w g t ≤ t + g ∧ widL l r (whF l r w g t) ≤ w
  | 0, t, h => ⟨Int.le_refl _, by simp [whF], h⟩
  | g + 1, t, h => by
    unfold whF
    by_cases h1 : widL l r (t + 1) ≤ w
    · rw [if_pos h1]
      obtain ⟨a, b, c⟩ := whF_in g (t + 1) h1
      exact ⟨by omega, by omega, c⟩
    · rw [if_neg h1]
      exact ⟨Int.le_refl _, by omega, h⟩
/-- Until when, and whether ever. -/
def untL (l : List T3) (r w : Int) : Int × Bool := if agreeB l r = true ∧ widL l r (lastT l) ≤ w then (whF l r w (2000 - lastT l).toNat (lastT l), true) else (0, false)
theorem untL_last {l : List T3} {r w : Int} (hl : Ok l) (hr : 0 ≤ r) (ha : agreeB l r = true) : lastF l r w (2001 - lastT l).toNat (lastT l) (0, false) = untL l r w := by
  obtain ⟨h1, h2⟩ := last_le hl
  unfold untL
  by_cases h : widL l r (lastT l) ≤ w
  · rw [if_pos ⟨ha, h⟩, show (2001 - lastT l).toNat = (2000 - lastT l).toNat + 1 by omega]
    exact lastF_le hl hr _ _ _ (Int.le_refl _) h
  · rw [if_neg (by simp [h])]
    exact lastF_gt hl hr _ _ _ (Int.le_refl _) (by omega)
theorem untL_in {l : List T3} {r w : Int} (hl : Ok l) (h : (untL l r w).2 = true) : agreeB l r = true ∧ 0 ≤ (untL l r w).1 ∧ (untL l r w).1 ≤ 2000 ∧ widL l r (untL l r w).1 ≤ w := by
  obtain ⟨h1, h2⟩ := last_le hl
  unfold untL at h ⊢
  by_cases hc : agreeB l r = true ∧ widL l r (lastT l) ≤ w
  · rw [if_pos hc] at h ⊢
    obtain ⟨a, b, c⟩ := whF_in (l := l) (r := r) (w := w) (2000 - lastT l).toNat (lastT l) hc.2
    exact ⟨hc.1, by show 0 ≤ whF l r w _ _; omega, by show whF l r w _ _ ≤ 2000; omega, c⟩
  · rw [if_neg hc] at h; cases h
end Go.Proofs.Ytbbhaongakmhpaa
