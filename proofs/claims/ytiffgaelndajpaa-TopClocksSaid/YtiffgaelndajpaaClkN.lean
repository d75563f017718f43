/- Jobs in time: urgency is as late as the most crowded stretch, and nothing else is. Lists and numbers alone. -/
import Derived.Test.YtiffgaelndajpaaClkM
namespace Go.Proofs.Ytiffgaelndajpaa

/-- The most urgent one of the first k jobs that can be done. -/
def nextTo (L : List T3) (t : Nat) : Nat → Int
  | 0 => -1
  | k + 1 => if availB L t k then (if nextTo L t k < 0 then (k : Int) else if (L.getD k t0).2.1 < (L.getD (nextTo L t k).toNat t0).2.1 then (k : Int) else nextTo L t k) else nextTo L t k
def nextF (L : List T3) (t : Nat) : Int := nextTo L t L.length
/-- What the most urgent one is. -/
def IsNext (L : List T3) (t : Nat) (n : Nat) (f : Int) : Prop :=
  (f = -1 ∧ ∀ j, j < n → availB L t j = false) ∨ ∃ k : Nat, f = (k : Int) ∧ k < n ∧ availB L t k = true ∧ ∀ j, j < n → availB L t j = true → (L.getD k t0).2.1 ≤ (L.getD j t0).2.1 ∧ ((L.getD j t0).2.1 = (L.getD k t0).2.1 → k ≤ j)
theorem nextTo_is (L : List T3) (t : Nat) : ∀ n, IsNext L t n (nextTo L t n)
  | 0 => .inl ⟨rfl, fun j hj => by omega⟩
  | n + 1 => by
    have ih := nextTo_is L t n
    rw [nextTo]
    by_cases ha : availB L t n = true
    · rw [if_pos ha]
      rcases ih with ⟨h1, h2⟩ | ⟨k, h1, h2, h3, h4⟩
      · rw [h1, if_pos (by omega)]
        refine .inr ⟨n, rfl, by omega, ha, fun j hj hja => ?_⟩
        rcases Nat.lt_or_ge j n with x | x
        · rw [h2 j x] at hja; cases hja
        · obtain rfl : j = n := by omega
          exact ⟨Int.le_refl _, fun _ => Nat.le_refl _⟩
      · rw [h1, if_neg (by omega)]
        by_cases hlt : (L.getD n t0).2.1 < (L.getD ((k : Nat) : Int).toNat t0).2.1
        · rw [if_pos hlt]
          rw [Int.toNat_natCast] at hlt
          refine .inr ⟨n, rfl, by omega, ha, fun j hj hja => ?_⟩
          rcases Nat.lt_or_ge j n with x | x
          · have := (h4 j x hja).1
            exact ⟨by omega, fun e => by omega⟩
          · obtain rfl : j = n := by omega
            exact ⟨Int.le_refl _, fun _ => Nat.le_refl _⟩
        · rw [if_neg hlt]
          rw [Int.toNat_natCast] at hlt
          refine .inr ⟨k, rfl, by omega, h3, fun j hj hja => ?_⟩
          rcases Nat.lt_or_ge j n with x | x
          · exact h4 j x hja
          · obtain rfl : j = n := by omega
            exact ⟨by omega, fun _ => by omega⟩
    · rw [if_neg ha]
      rcases ih with ⟨h1, h2⟩ | ⟨k, h1, h2, h3, h4⟩
      · refine .inl ⟨h1, fun j hj => ?_⟩
        rcases Nat.lt_or_ge j n with x | x
        · exact h2 j x
        · obtain rfl : j = n := by omega
          simpa using ha
      · refine .inr ⟨k, h1, by omega, h3, fun j hj hja => ?_⟩
        rcases Nat.lt_or_ge j n with x | x
        · exact h4 j x hja
        · obtain rfl : j = n := by omega
          exact absurd hja ha
theorem IsNext.uniq {L : List T3} {t n : Nat} {f g : Int} (hf : IsNext L t n f) (hg : IsNext L t n g) : f = g := by
  rcases hf with ⟨h1, h2⟩ | ⟨k, h1, h2, h3, h4⟩
  · rcases hg with ⟨g1, _⟩ | ⟨k', g1, g2, g3, _⟩
    · rw [h1, g1]
    · rw [h2 k' g2] at g3; cases g3
  · rcases hg with ⟨g1, g2⟩ | ⟨k', g1, g2, g3, g4⟩
    · rw [g2 k h2] at h3; cases h3
    · obtain ⟨a1, a2⟩ := h4 k' g2 g3
      obtain ⟨b1, b2⟩ := g4 k h2 h3
      have := a2 (by omega)
      have := b2 (by omega)
      rw [h1, g1]; omega
theorem picks_next (l : List T3) : Picks nextF l := fun L t _ => by
  rcases nextTo_is L t L.length with ⟨h1, h2⟩ | ⟨k, h1, h2, h3, _⟩
  · exact .inl ⟨h1, h2⟩
  · exact .inr ⟨k, h1, h2, h3⟩

def leftAt (l : List T3) (c : Nat) : List T3 := leftG nextF l c
def pickAt (l : List T3) (c : Nat) : Int := pickG nextF l c
def lenU (l : List T3) : Nat := lenG nextF l
def unitsTo (l : List T3) (c : Nat) : List Int := (List.range c).map (pickAt l)
def urgL (l : List T3) : List Int := unitsTo l (lenU l)
theorem unitsTo_succ (l : List T3) (c : Nat) : unitsTo l (c + 1) = unitsTo l c ++ [pickAt l c] := by simp [unitsTo, List.range_succ]
@[simp] theorem unitsTo_len (l : List T3) (c : Nat) : (unitsTo l c).length = c := by simp [unitsTo]
theorem unitsTo_get (l : List T3) (c t : Nat) (h : t < c) : (unitsTo l c).getD t 0 = pickAt l t := by simp [unitsTo, h]
theorem leftAt_len (l : List T3) (c : Nat) : (leftAt l c).length = l.length := leftG_len _ _ _
theorem leftAt_succ (l : List T3) (c : Nat) : leftAt l (c + 1) = stepL (leftAt l c) (pickAt l c) := rfl
theorem pickAt_eq (l : List T3) (c : Nat) : pickAt l c = nextF (leftAt l c) c := rfl
theorem leftAt_get (l : List T3) {k : Nat} (hk : k < l.length) (c : Nat) : (leftAt l c).getD k t0 = ((l.getD k t0).1, (l.getD k t0).2.1, (l.getD k t0).2.2 - cntP (fun t => pickAt l t == (k : Int)) c) := leftG_get _ _ _ hk c
theorem pickAt_range (l : List T3) (c : Nat) : -1 ≤ pickAt l c ∧ pickAt l c < (l.length : Int) := by
  rcases pick_is (picks_next l) c with ⟨h1, _⟩ | ⟨k, h1, h2, _⟩
  · unfold pickAt; omega
  · unfold pickAt; omega
/-- The most urgent one has no greater By. -/
theorem pickAt_urgent (l : List T3) (c : Nat) {j : Nat} (hj : j < l.length) (ha : availB (leftAt l c) c j = true) : ∃ k : Nat, pickAt l c = (k : Int) ∧ k < l.length ∧ (l.getD k t0).2.1 ≤ (l.getD j t0).2.1 := by
  have hj' : j < (leftAt l c).length := by rw [leftAt_len]; exact hj
  rcases nextTo_is (leftAt l c) c (leftAt l c).length with ⟨h1, h2⟩ | ⟨k, h1, h2, h3, h4⟩
  · rw [h2 j hj'] at ha; cases ha
  · have hk : k < l.length := by rw [leftAt_len] at h2; exact h2
    have h5 := (h4 j hj' ha).1
    rw [leftAt_get l hk, leftAt_get l hj] at h5
    exact ⟨k, h1, hk, h5⟩

/-- The first unit of a stretch without rest that ends with unit u, for jobs to be done by d. -/
theorem busy (T : Nat → Int) (B : Nat → Int) (d : Int) : ∀ (s u : Nat), s ≤ u → (∀ t, s ≤ t → t ≤ u → 0 ≤ T t ∧ B (T t).toNat ≤ d) →
    ∃ s', s' ≤ s ∧ (∀ t, s' ≤ t → t ≤ u → 0 ≤ T t ∧ B (T t).toNat ≤ d) ∧ (s' = 0 ∨ ∃ r, s' = r + 1 ∧ ¬ (0 ≤ T r ∧ B (T r).toNat ≤ d))
  | 0, u, _, h => ⟨0, Nat.le_refl _, h, .inl rfl⟩
  | s + 1, u, hs, h => by
    by_cases hb : 0 ≤ T s ∧ B (T s).toNat ≤ d
    · obtain ⟨s', h1, h2, h3⟩ := busy T B d s u (by omega) (fun t h1 h2 => by
        rcases Nat.lt_or_ge s t with x | x
        · exact h t (by omega) h2
        · obtain rfl : t = s := by omega
          exact hb)
      exact ⟨s', by omega, h2, h3⟩
    · exact ⟨s + 1, Nat.le_refl _, h, .inr ⟨s, rfl, hb⟩⟩
/-- Where a unit of a job is late, a stretch is crowded as much. -/
theorem late_le {l : List T3} (hl : Ok l) {u k : Nat} (hu : u < lenU l) (hk : pickAt l u = (k : Int)) :
    ∃ s : Nat, (s : Int) ≤ (l.getD k t0).1 ∧ (u : Int) + 1 - s ≤ dem l s (l.getD k t0).2.1 ∧ s ≤ u := by
  have hkl : k < l.length := by have := (pickAt_range l u).2; omega
  obtain ⟨s, hsu, hall, hrest⟩ := busy (pickAt l) (fun k => (l.getD k t0).2.1) (l.getD k t0).2.1 u u (Nat.le_refl _) (fun t h1 h2 => by
    obtain rfl : t = u := by omega
    rw [hk]; exact ⟨by omega, by simp⟩)
  -- each job of it begins in it
  have hF : ∀ t (j : Nat), s ≤ t → t ≤ u → pickAt l t = (j : Int) → (s : Int) ≤ (l.getD j t0).1 := by
    intro t j h1 h2 hj
    have hjl : j < l.length := by have := (pickAt_range l t).2; omega
    rcases hrest with rfl | ⟨r, rfl, hbad⟩
    · exact (hl.jobs.get hjl).f0
    · rcases Int.lt_or_le (l.getD j t0).1 ((r + 1 : Nat) : Int) with hlt | hge
      · exfalso
        refine hbad ?_
        have hB := (hall t h1 h2).2
        rw [hj, Int.toNat_natCast] at hB
        rcases pick_is (picks_next l) t with ⟨h3, _⟩ | ⟨k', h3, _, _, h5⟩
        · have h3' : pickAt l t = -1 := h3
          omega
        · have h3' : pickAt l t = (k' : Int) := h3
          obtain rfl : k' = j := by omega
          have h6 := leftAt_get l hjl t
          have h7 := leftAt_get l hjl r
          have h8 := cntP_mono (fun t => pickAt l t == (k' : Int)) (show r ≤ t by omega)
          have h5' : 0 < ((leftAt l t).getD k' t0).2.2 := h5
          rw [h6] at h5'
          obtain ⟨k2, h9, h10, h11⟩ := pickAt_urgent l r hjl (availB_z.2 (by rw [h7]; refine ⟨?_, by show (l.getD k' t0).1 ≤ (r : Int); omega⟩; show 0 < (l.getD k' t0).2.2 - ((cntP (fun t => pickAt l t == (k' : Int)) r : Nat) : Int); simp only [] at h5'; omega))
          rw [h9, Int.toNat_natCast]
          exact ⟨by omega, by omega⟩
      · exact hge
  refine ⟨s, hF u k hsu (Nat.le_refl _) hk, ?_, hsu⟩
  have h1 := dem_units (T := pickG nextF l) (N := lenG nextF l) (fun k hk => done_all (picks_next l) hl hk) s (l.getD k t0).2.1
  have h2 := cntP_ge (P := fun t => decide (0 ≤ pickG nextF l t) && decide (pickG nextF l t < (l.length : Int)) && inS (s : Int) (l.getD k t0).2.1 (l.getD (pickG nextF l t).toNat t0)) (a := s) (E := u + 1) fun t ht1 ht2 => by
    obtain ⟨h3, h4⟩ := hall t ht1 (by omega)
    have h5 := (pickAt_range l t).2
    have h6 := hF t (pickAt l t).toNat ht1 (by omega) (by omega)
    have e : pickG nextF l t = pickAt l t := rfl
    simp only [Bool.and_eq_true, decide_eq_true_eq, inS_z, e]
    exact ⟨⟨h3, h5⟩, h6, h4⟩
  have h3 := cntP_mono (fun t => decide (0 ≤ pickG nextF l t) && decide (pickG nextF l t < (l.length : Int)) && inS (s : Int) (l.getD k t0).2.1 (l.getD (pickG nextF l t).toNat t0)) (show u + 1 ≤ lenG nextF l from hu)
  omega

/- When the jobs are done. -/
def endStep (es : List Int) (f : Int) (t : Nat) : List Int := if f < 0 then es else es.set f.toNat ((t : Int) + 1)
def endsTo (l : List T3) : Nat → List Int
  | 0 => List.replicate l.length 0
  | c + 1 => endStep (endsTo l c) (pickAt l c) c
def endsL (l : List T3) : List Int := endsTo l (lenU l)
theorem endStep_len (es : List Int) (f : Int) (t : Nat) : (endStep es f t).length = es.length := by unfold endStep; split <;> simp
@[simp] theorem endsTo_len (l : List T3) : ∀ c, (endsTo l c).length = l.length
  | 0 => by simp [endsTo]
  | c + 1 => by rw [endsTo, endStep_len, endsTo_len l c]
@[simp] theorem endsL_len (l : List T3) : (endsL l).length = l.length := endsTo_len _ _
theorem endStep_get (es : List Int) (f : Int) (t k : Nat) (hk : k < es.length) : (endStep es f t).getD k 0 = if f = (k : Int) then (t : Int) + 1 else es.getD k 0 := by
  unfold endStep
  by_cases hf : f < 0
  · rw [if_pos hf, if_neg (by omega)]
  · rw [if_neg hf]
    by_cases e : f = (k : Int)
    · subst e; rw [if_pos rfl]; simp [List.getD_eq_getElem?_getD, hk]
    · rw [if_neg e, List.getD_eq_getElem?_getD, List.getElem?_set_ne (by omega), ← List.getD_eq_getElem?_getD]
/-- After c units a job's number is the end of its last unit so far, or 0 if it has none. -/
theorem endsTo_is (l : List T3) {k : Nat} (hk : k < l.length) : ∀ c, ((endsTo l c).getD k 0 = 0 ∧ ∀ t, t < c → pickAt l t ≠ (k : Int)) ∨ ∃ u, u < c ∧ (endsTo l c).getD k 0 = (u : Int) + 1 ∧ pickAt l u = (k : Int) ∧ ∀ t, t < c → pickAt l t = (k : Int) → t ≤ u
  | 0 => .inl ⟨by simp [endsTo, hk], fun t h => by omega⟩
  | c + 1 => by
    rw [endsTo, endStep_get _ _ _ _ (by simpa using hk)]
    by_cases e : pickAt l c = (k : Int)
    · rw [if_pos e]
      exact .inr ⟨c, by omega, rfl, e, fun t h1 _ => by omega⟩
    · rw [if_neg e]
      rcases endsTo_is l hk c with ⟨h1, h2⟩ | ⟨u, h1, h2, h3, h4⟩
      · refine .inl ⟨h1, fun t ht => ?_⟩
        rcases Nat.lt_or_ge t c with x | x
        · exact h2 t x
        · obtain rfl : t = c := by omega
          exact e
      · refine .inr ⟨u, by omega, h2, h3, fun t ht hp => ?_⟩
        rcases Nat.lt_or_ge t c with x | x
        · exact h4 t x hp
        · obtain rfl : t = c := by omega
          exact absurd hp e
theorem lenU_le {l : List T3} (hl : Ok l) : lenU l ≤ 540 := (lenG_spec (picks_next l) hl).1
theorem cntP_none {P : Nat → Bool} : ∀ {c : Nat}, (∀ t, t < c → P t = false) → cntP P c = 0
  | 0, _ => rfl
  | c + 1, h => by rw [cntP, cntP_none fun t ht => h t (by omega), h c (by omega)]; rfl
/-- When a job is done. -/
theorem endsL_is {l : List T3} (hl : Ok l) {k : Nat} (hk : k < l.length) : ∃ u, u < lenU l ∧ (endsL l).getD k 0 = (u : Int) + 1 ∧ pickAt l u = (k : Int) ∧ ∀ t, t < lenU l → pickAt l t = (k : Int) → t ≤ u := by
  rcases endsTo_is l hk (lenU l) with ⟨_, h2⟩ | h
  · exfalso
    have h3 := done_all (picks_next l) hl hk
    have h4 := cntP_none (P := fun t => pickG nextF l t == (k : Int)) (c := lenG nextF l) fun t ht => by
      have := h2 t ht
      simpa [pickAt] using this
    have h5 := hl.need k hk
    omega
  · exact h
theorem endsTo_range (l : List T3) {k : Nat} (hk : k < l.length) (c : Nat) : 0 ≤ (endsTo l c).getD k 0 ∧ (endsTo l c).getD k 0 ≤ c := by
  rcases endsTo_is l hk c with ⟨h1, _⟩ | ⟨u, h1, h2, _⟩ <;> omega

/- The greatest lateness. -/
def lateTo (l : List T3) : Nat → Int
  | 0 => -60
  | k + 1 => max (lateTo l k) ((endsL l).getD k 0 - (l.getD k t0).2.1)
def lateL (l : List T3) : Int := if l.length = 0 then 0 else lateTo l l.length
theorem lateTo_le {l : List T3} {M : Int} : ∀ {n : Nat}, lateTo l n ≤ M ↔ -60 ≤ M ∧ ∀ k, k < n → (endsL l).getD k 0 - (l.getD k t0).2.1 ≤ M
  | 0 => by simp [lateTo]
  | n + 1 => by
    rw [lateTo, Int.max_le, lateTo_le (n := n)]
    constructor
    · rintro ⟨⟨h0, h1⟩, h2⟩
      refine ⟨h0, fun k hk => ?_⟩
      rcases Nat.lt_or_ge k n with x | x
      · exact h1 k x
      · obtain rfl : k = n := by omega
        exact h2
    · rintro ⟨h0, h1⟩
      exact ⟨⟨h0, fun k hk => h1 k (by omega)⟩, h1 n (by omega)⟩
/-- As late as the most crowded stretch, of any stretches at all. -/
theorem lateL_iff {l : List T3} (hl : Ok l) (hn : 0 < l.length) {M : Int} : lateL l ≤ M ↔ ∀ a b : Int, 0 < dem l a b → dem l a b - (b - a) ≤ M := by
  rw [lateL, if_neg (by omega), lateTo_le]
  constructor
  · rintro ⟨_, h⟩ a b hd
    refine late_ge (T := pickG nextF l) (N := lenG nextF l) (fun k hk => done_all (picks_next l) hl hk) (fun t k _ hk hp => pick_from (picks_next l) t k hk hp) (fun t k ht hk hp => ?_) a b hd
    obtain ⟨u, h1, h2, h3, h4⟩ := endsL_is hl hk
    have h5 := h k hk
    have h6 := h4 t ht hp
    omega
  · intro h
    have key : ∀ k, k < l.length → (endsL l).getD k 0 - (l.getD k t0).2.1 ≤ M := fun k hk => by
      obtain ⟨u, h1, h2, h3, _⟩ := endsL_is hl hk
      obtain ⟨s, h4, h5, h6⟩ := late_le hl h1 h3
      have h7 := h s (l.getD k t0).2.1 (by omega)
      omega
    refine ⟨?_, key⟩
    have h1 := key 0 hn
    obtain ⟨u, _, h2, _⟩ := endsL_is hl hn
    have := (hl.jobs.get hn).b1
    omega
theorem lateL_range {l : List T3} (hl : Ok l) : -60 ≤ lateL l ∧ lateL l ≤ 540 := by
  by_cases hn : l.length = 0
  · rw [lateL, if_pos hn]; omega
  · rw [lateL, if_neg hn]
    refine ⟨?_, lateTo_le.2 ⟨by omega, fun k hk => ?_⟩⟩
    · have := (lateTo_le (l := l) (M := lateTo l l.length) (n := l.length)).1 (Int.le_refl _)
      exact this.1
    · have h1 := (endsTo_range l hk (lenU l)).2
      have h2 := lenU_le hl
      have h3 := (hl.jobs.get hk).fb
      have h4 := (hl.jobs.get hk).f0
      unfold endsL; omega
end Go.Proofs.Ytiffgaelndajpaa
