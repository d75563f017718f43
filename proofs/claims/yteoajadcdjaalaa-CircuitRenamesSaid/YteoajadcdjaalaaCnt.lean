/- In how many orders the numbers of a set may come, counted by the first ones and by the last ones. -/
namespace Go.Proofs.Yteoajadcdjaalaa

def sumN (f : Nat → Nat) : Nat → Nat
  | 0 => 0
  | m + 1 => sumN f m + f m
theorem sumN_congr {f g : Nat → Nat} : ∀ m, (∀ k, k < m → f k = g k) → sumN f m = sumN g m
  | 0, _ => rfl
  | m + 1, h => by rw [sumN, sumN, sumN_congr m (fun k hk => h k (by omega)), h m (by omega)]
theorem sumN_add (f g : Nat → Nat) : ∀ m, sumN (fun k => f k + g k) m = sumN f m + sumN g m
  | 0 => rfl
  | m + 1 => by rw [sumN, sumN, sumN, sumN_add f g m]; omega
theorem sumN_zero {f : Nat → Nat} : ∀ m, (∀ k, k < m → f k = 0) → sumN f m = 0
  | 0, _ => rfl
  | m + 1, h => by rw [sumN, sumN_zero m (fun k hk => h k (by omega)), h m (by omega)]
theorem sumN_comm (f : Nat → Nat → Nat) (n : Nat) : ∀ m, sumN (fun i => sumN (f i) n) m = sumN (fun k => sumN (fun i => f i k) m) n
  | 0 => (sumN_zero n fun _ _ => rfl).symm
  | m + 1 => by
    rw [sumN, sumN_comm f n m, ← sumN_add]; rfl
theorem sumN_mono {f g : Nat → Nat} : ∀ m, (∀ k, k < m → f k ≤ g k) → sumN f m ≤ sumN g m
  | 0, _ => Nat.le_refl _
  | m + 1, h => by
    rw [sumN, sumN]
    have := sumN_mono m (fun k hk => h k (by omega))
    have := h m (by omega)
    omega
theorem sumN_le {f : Nat → Nat} {b : Nat} : ∀ m, (∀ k, k < m → f k ≤ b) → sumN f m ≤ m * b
  | 0, _ => by simp [sumN]
  | m + 1, h => by
    rw [sumN, Nat.succ_mul]
    have := sumN_le m (fun k hk => h k (by omega))
    have := h m (by omega)
    omega
theorem sumN_ge {f : Nat → Nat} {j : Nat} : ∀ m, j < m → f j ≤ sumN f m
  | 0, h => by omega
  | m + 1, h => by
    rw [sumN]
    by_cases hj : j < m
    · have := sumN_ge (f := f) m hj; omega
    · obtain rfl : j = m := by omega
      omega
theorem sumN_ge2 {f : Nat → Nat} {i j : Nat} (hij : i < j) : ∀ m, j < m → f i + f j ≤ sumN f m
  | 0, h => by omega
  | m + 1, h => by
    rw [sumN]
    by_cases hj : j < m
    · have := sumN_ge2 (f := f) hij m hj; omega
    · obtain rfl : j = m := by omega
      have := sumN_ge (f := f) j hij; omega
theorem sumN_one {f : Nat → Nat} {j : Nat} : ∀ m, j < m → (∀ k, k < m → k ≠ j → f k = 0) → sumN f m = f j
  | 0, h, _ => by omega
  | m + 1, h, h0 => by
    rw [sumN]
    by_cases hj : j < m
    · rw [sumN_one m hj (fun k hk => h0 k (by omega)), h0 m (by omega) (by omega), Nat.add_zero]
    · obtain rfl : j = m := by omega
      rw [sumN_zero j (fun k hk => h0 k (by omega) (by omega))]; omega

/-- The numbers a and a + 1 exchanged. -/
def sw (a k : Nat) : Nat := if k = a then a + 1 else if k = a + 1 then a else k
theorem sw_sw (a k : Nat) : sw a (sw a k) = k := by unfold sw; split <;> (try split) <;> (try split) <;> omega
theorem sw_lt {a k m : Nat} (h : a + 1 < m) (hk : k < m) : sw a k < m := by unfold sw; split <;> (try split) <;> omega
theorem sumN_sw (f : Nat → Nat) (a : Nat) : ∀ m, a + 1 < m → sumN (fun k => f (sw a k)) m = sumN f m
  | 0, h => by omega
  | m + 1, h => by
    by_cases ha : a + 1 < m
    · rw [sumN, sumN, sumN_sw f a m ha]
      have : sw a m = m := by unfold sw; split <;> (try split) <;> omega
      rw [this]
    · obtain rfl : m = a + 1 := by omega
      rw [sumN, sumN, sumN, sumN]
      have e : sumN (fun k => f (sw a k)) a = sumN f a := sumN_congr a fun k hk => by
        have : sw a k = k := by unfold sw; split <;> (try split) <;> omega
        rw [this]
      have e1 : sw a a = a + 1 := by simp [sw]
      have e2 : sw a (a + 1) = a := by simp [sw]
      rw [e, e1, e2]; omega

def remB (S : Nat → Bool) (i : Nat) : Nat → Bool := fun k => S k && k != i
/-- i may be the first one of S: no j of S must come before it. -/
def firstB (P : Nat → Nat → Bool) (m : Nat) (S : Nat → Bool) (i : Nat) : Bool := S i && (List.range m).all fun j => !(S j && P j i)
def lastB (P : Nat → Nat → Bool) (m : Nat) (S : Nat → Bool) (i : Nat) : Bool := S i && (List.range m).all fun j => !(S j && P i j)
theorem firstB_iff {P : Nat → Nat → Bool} {m : Nat} {S : Nat → Bool} {i : Nat} : firstB P m S i = true ↔ S i = true ∧ ∀ j, j < m → S j = true → P j i = false := by
  simp only [firstB, Bool.and_eq_true, List.all_eq_true, List.mem_range, Bool.not_eq_true', Bool.and_eq_false_iff]
  constructor
  · rintro ⟨h1, h2⟩
    refine ⟨h1, fun j hj hs => ?_⟩
    rcases h2 j hj with h | h
    · rw [hs] at h; cases h
    · exact h
  · rintro ⟨h1, h2⟩
    refine ⟨h1, fun j hj => ?_⟩
    cases hs : S j
    · exact .inl rfl
    · exact .inr (h2 j hj hs)
theorem lastB_iff {P : Nat → Nat → Bool} {m : Nat} {S : Nat → Bool} {i : Nat} : lastB P m S i = true ↔ S i = true ∧ ∀ j, j < m → S j = true → P i j = false := firstB_iff (P := fun a b => P b a)
theorem remB_iff {S : Nat → Bool} {i k : Nat} : remB S i k = true ↔ S k = true ∧ k ≠ i := by simp [remB]
theorem remB_comm (S : Nat → Bool) (i k : Nat) : remB (remB S i) k = remB (remB S k) i := by
  funext x; unfold remB; cases S x <;> cases (x != i) <;> cases (x != k) <;> rfl

def Fc (P : Nat → Nat → Bool) (m : Nat) : Nat → (Nat → Bool) → Nat
  | 0, _ => 1
  | n + 1, S => sumN (fun i => if firstB P m S i = true then Fc P m n (remB S i) else 0) m
def Ec (P : Nat → Nat → Bool) (m : Nat) : Nat → (Nat → Bool) → Nat
  | 0, _ => 1
  | n + 1, S => sumN (fun i => if lastB P m S i = true then Ec P m n (remB S i) else 0) m
def card (m : Nat) (S : Nat → Bool) : Nat := sumN (fun i => if S i = true then 1 else 0) m
theorem card_rem {S : Nat → Bool} {i : Nat} (hs : S i = true) : ∀ m, i < m → card m (remB S i) + 1 = card m S
  | 0, h => by omega
  | m + 1, h => by
    rw [card, card, sumN, sumN]
    by_cases hi : i < m
    · have := card_rem hs m hi
      rw [card, card] at this
      have e : remB S i m = S m := by simp [remB, show m ≠ i by omega]
      rw [e]; omega
    · obtain rfl : i = m := by omega
      have e : sumN (fun k => if remB S i k = true then 1 else 0) i = sumN (fun k => if S k = true then 1 else 0) i := sumN_congr i fun k hk => by
        have : remB S i k = S k := by simp [remB, show k ≠ i by omega]
        rw [this]
      have e2 : remB S i i = false := by simp [remB]
      rw [e, e2, hs]; simp
theorem card_one {m : Nat} {S : Nat → Bool} (h : card m S = 1) {i j : Nat} (hi : i < m) (hj : j < m) (si : S i = true) (sj : S j = true) : i = j := by
  have key : ∀ a b, a < b → b < m → S a = true → S b = true → False := fun a b hab hb sa sb => by
    have := sumN_ge2 (f := fun i => if S i = true then 1 else 0) hab m hb
    simp only [sa, sb, if_true] at this
    rw [card] at h; omega
  rcases Nat.lt_trichotomy i j with h1 | h1 | h1
  · exact (key i j h1 hj si sj).elim
  · exact h1
  · exact (key j i h1 hi sj si).elim

theorem first_last {P : Nat → Nat → Bool} {m : Nat} {S : Nat → Bool} {i k : Nat} (hi : i < m) (hk : k < m) :
    (firstB P m S i = true ∧ lastB P m (remB S i) k = true) ↔ (lastB P m S k = true ∧ firstB P m (remB S k) i = true) := by
  rw [firstB_iff, lastB_iff, lastB_iff, firstB_iff]
  simp only [remB_iff]
  constructor
  · rintro ⟨⟨a1, a2⟩, ⟨b1, b2⟩, b3⟩
    refine ⟨⟨b1, fun j hj sj => ?_⟩, ⟨a1, fun h => b2 h.symm⟩, fun j hj sj => a2 j hj sj.1⟩
    by_cases h : j = i
    · subst h; exact a2 k hk b1
    · exact b3 j hj ⟨sj, h⟩
  · rintro ⟨⟨a1, a2⟩, ⟨b1, b2⟩, b3⟩
    refine ⟨⟨b1, fun j hj sj => ?_⟩, ⟨a1, fun h => b2 h.symm⟩, fun j hj sj => a2 j hj sj.1⟩
    by_cases h : j = k
    · subst h; exact a2 i hi b1
    · exact b3 j hj ⟨sj, h⟩

theorem if_sumN {c : Prop} [Decidable c] (f : Nat → Nat) (m : Nat) : (if c then sumN f m else 0) = sumN (fun k => if c then f k else 0) m := by
  by_cases h : c
  · simp [h]
  · rw [if_neg h, sumN_zero m]; intro k _; rw [if_neg h]
theorem if_if {c d : Prop} [Decidable c] [Decidable d] (x : Nat) : (if c then (if d then x else 0) else 0) = if c ∧ d then x else 0 := by
  by_cases hc : c <;> by_cases hd : d <;> simp [hc, hd]

theorem Fc_Ec {P : Nat → Nat → Bool} {m : Nat} (hP : ∀ i, P i i = false) : ∀ n S, card m S = n → Fc P m n S = Ec P m n S := by
  intro n
  induction n using Nat.strongRecOn with
  | ind n ih =>
    intro S hS
    rcases n with _ | _ | n
    · rfl
    · rw [Fc, Ec]
      refine sumN_congr m fun i hi => ?_
      have e : firstB P m S i = lastB P m S i := by
        rw [Bool.eq_iff_iff, firstB_iff, lastB_iff]
        constructor
        · rintro ⟨h, _⟩; exact ⟨h, fun j hj sj => by rw [card_one hS hj hi sj h]; exact hP i⟩
        · rintro ⟨h, _⟩; exact ⟨h, fun j hj sj => by rw [card_one hS hj hi sj h]; exact hP i⟩
      rw [e]; rfl
    · have hf : Fc P m (n + 2) S = sumN (fun i => sumN (fun k => if firstB P m S i = true ∧ lastB P m (remB S i) k = true then Ec P m n (remB (remB S i) k) else 0) m) m := by
        rw [Fc]
        refine sumN_congr m fun i hi => ?_
        by_cases h : firstB P m S i = true
        · have hc := card_rem (firstB_iff.1 h).1 m hi
          rw [if_pos h, ih (n + 1) (by omega) _ (by omega), Ec]
          refine sumN_congr m fun k _ => ?_
          simp [h]
        · rw [if_neg h, sumN_zero m]
          intro k _; simp [h]
      have he : Ec P m (n + 2) S = sumN (fun k => sumN (fun i => if lastB P m S k = true ∧ firstB P m (remB S k) i = true then Fc P m n (remB (remB S k) i) else 0) m) m := by
        rw [Ec]
        refine sumN_congr m fun i hi => ?_
        by_cases h : lastB P m S i = true
        · have hc := card_rem (lastB_iff.1 h).1 m hi
          rw [if_pos h, ← ih (n + 1) (by omega) _ (by omega), Fc]
          refine sumN_congr m fun k _ => ?_
          simp [h]
        · rw [if_neg h, sumN_zero m]
          intro k _; simp [h]
      rw [hf, he, sumN_comm]
      refine sumN_congr m fun k hk => sumN_congr m fun i hi => ?_
      by_cases h : firstB P m S i = true ∧ lastB P m (remB S i) k = true
      · rw [if_pos h, if_pos ((first_last hi hk).1 h), remB_comm S k i]
        have h1 := card_rem (firstB_iff.1 h.1).1 m hi
        have h2 := card_rem (lastB_iff.1 h.2).1 m hk
        exact (ih n (by omega) (remB (remB S i) k) (by omega)).symm
      · rw [if_neg h, if_neg fun h' => h ((first_last hi hk).2 h')]

theorem Fc_pos {P : Nat → Nat → Bool} {m : Nat} (hP : ∀ j i, P j i = true → j < i) : ∀ n S, card m S = n → 1 ≤ Fc P m n S
  | 0, S, _ => by rw [Fc]; omega
  | n + 1, S, h => by
    -- the smallest one
    have hex : ∃ i, i < m ∧ S i = true ∧ ∀ j, j < i → S j = false := by
      have : ∀ b, b ≤ m → (∃ i, i < b ∧ S i = true ∧ ∀ j, j < i → S j = false) ∨ ∀ j, j < b → S j = false := by
        intro b
        induction b with
        | zero => intro _; exact .inr fun j hj => by omega
        | succ b ihb =>
          intro hb
          rcases ihb (by omega) with ⟨i, h1, h2⟩ | h0
          · exact .inl ⟨i, by omega, h2⟩
          · cases hs : S b
            · exact .inr fun j hj => by
                by_cases hjb : j = b
                · subst hjb; exact hs
                · exact h0 j (by omega)
            · exact .inl ⟨b, by omega, hs, h0⟩
      rcases this m (Nat.le_refl _) with h1 | h1
      · exact h1
      · have : card m S = 0 := sumN_zero m fun k hk => by simp [h1 k hk]
        omega
    obtain ⟨i, hi, si, hmin⟩ := hex
    have hf : firstB P m S i = true := firstB_iff.2 ⟨si, fun j hj sj => by
      cases hp : P j i
      · rfl
      · have := hP j i hp
        rw [hmin j this] at sj; cases sj⟩
    have hc := card_rem si m hi
    have h1 := Fc_pos (m := m) hP n (remB S i) (by omega)
    have h2 := sumN_ge (f := fun i => if firstB P m S i = true then Fc P m n (remB S i) else 0) m hi
    rw [Fc]
    simp only [hf, if_true] at h2
    omega

theorem Ec_le (P : Nat → Nat → Bool) (m : Nat) : ∀ n S, Ec P m n S ≤ m ^ n
  | 0, _ => by simp [Ec]
  | n + 1, S => by
    rw [Ec, Nat.pow_succ, Nat.mul_comm]
    refine sumN_le m fun k _ => ?_
    split
    · exact Ec_le P m n _
    · exact Nat.zero_le _
theorem Ec_congr (P : Nat → Nat → Bool) (m : Nat) : ∀ n (S T : Nat → Bool), (∀ k, k < m → S k = T k) → Ec P m n S = Ec P m n T
  | 0, _, _, _ => rfl
  | n + 1, S, T, h => by
    rw [Ec, Ec]
    refine sumN_congr m fun i hi => ?_
    have e : lastB P m S i = lastB P m T i := by
      rw [Bool.eq_iff_iff, lastB_iff, lastB_iff, h i hi]
      constructor
      · rintro ⟨a, b⟩; exact ⟨a, fun j hj sj => b j hj (by rw [h j hj]; exact sj)⟩
      · rintro ⟨a, b⟩; exact ⟨a, fun j hj sj => b j hj (by rw [← h j hj]; exact sj)⟩
    rw [e, Ec_congr P m n (remB S i) (remB T i) fun k hk => by simp [remB, h k hk]]
theorem card_congr {m : Nat} {S T : Nat → Bool} (h : ∀ k, k < m → S k = T k) : card m S = card m T := sumN_congr m fun k hk => by rw [h k hk]

/-- All of S that is below one of S is in S. -/
def DownP (P : Nat → Nat → Bool) (m : Nat) (S : Nat → Bool) : Prop := ∀ i, i < m → S i = true → ∀ j, j < m → P j i = true → S j = true
instance (P : Nat → Nat → Bool) (m : Nat) (S : Nat → Bool) : Decidable (DownP P m S) := inferInstanceAs (Decidable (∀ i, i < m → _))
theorem DownP_congr {P : Nat → Nat → Bool} {m : Nat} {S T : Nat → Bool} (h : ∀ k, k < m → S k = T k) : DownP P m S ↔ DownP P m T := by
  unfold DownP
  constructor
  · intro hd i hi si j hj hp; rw [← h j hj]; exact hd i hi (by rw [h i hi]; exact si) j hj hp
  · intro hd i hi si j hj hp; rw [h j hj]; exact hd i hi (by rw [← h i hi]; exact si) j hj hp

/-- In how many orders the ones of S may come first; 0 where they can't. -/
def oS (P : Nat → Nat → Bool) (m : Nat) (S : Nat → Bool) : Nat := if DownP P m S then Ec P m (card m S) S else 0
theorem oS_congr {P : Nat → Nat → Bool} {m : Nat} {S T : Nat → Bool} (h : ∀ k, k < m → S k = T k) : oS P m S = oS P m T := by
  unfold oS
  rw [card_congr h, Ec_congr P m _ S T h]
  by_cases hd : DownP P m S
  · rw [if_pos hd, if_pos ((DownP_congr h).1 hd)]
  · rw [if_neg hd, if_neg fun h' => hd ((DownP_congr h).2 h')]
theorem oS_le (P : Nat → Nat → Bool) (m : Nat) (S : Nat → Bool) : oS P m S ≤ m ^ card m S := by
  unfold oS
  split
  · exact Ec_le _ _ _ _
  · exact Nat.zero_le _

/-- One step back: any condition on the last one that says at least 'all below it are in S', and holds of those that may be the last. -/
theorem oS_step {P : Nat → Nat → Bool} {m : Nat} {S : Nat → Bool} (hP : ∀ i, P i i = false) (c : Nat → Prop) [DecidablePred c]
    (h1 : ∀ i, i < m → S i = true → c i → ∀ j, j < m → P j i = true → remB S i j = true)
    (h2 : ∀ i, i < m → lastB P m S i = true → (∀ j, j < m → P j i = true → S j = true) → c i)
    (hn : ∃ k, k < m ∧ S k = true) :
    oS P m S = sumN (fun i => if S i = true ∧ c i then oS P m (remB S i) else 0) m := by
  obtain ⟨n, hc⟩ : ∃ n, card m S = n + 1 := by
    obtain ⟨k, hk, sk⟩ := hn
    have := sumN_ge (f := fun i => if S i = true then 1 else 0) m hk
    simp only [sk, if_true] at this
    exact ⟨card m S - 1, by rw [card]; omega⟩
  by_cases hd : DownP P m S
  · rw [oS, if_pos hd, hc, Ec]
    refine sumN_congr m fun i hi => ?_
    by_cases hs : S i = true
    · have hc' : card m (remB S i) = n := by have := card_rem hs m hi; omega
      by_cases hl : lastB P m S i = true
      · have hdr : DownP P m (remB S i) := by
          intro a ha sa j hj hp
          rw [remB_iff] at sa ⊢
          refine ⟨hd a ha sa.1 j hj hp, ?_⟩
          rintro rfl
          have := (lastB_iff.1 hl).2 a ha sa.1
          rw [hp] at this; cases this
        have hci := h2 i hi hl (hd i hi hs)
        rw [if_pos hl, if_pos ⟨hs, hci⟩, oS, if_pos hdr, hc']
      · rw [if_neg hl]
        have hex : ∃ j, j < m ∧ S j = true ∧ P i j = true := by
          by_cases he : ∃ j, j < m ∧ S j = true ∧ P i j = true
          · exact he
          · exact (hl (lastB_iff.2 ⟨hs, fun j hj sj => by
              cases hp : P i j
              · rfl
              · exact (he ⟨j, hj, sj, hp⟩).elim⟩)).elim
        obtain ⟨j, hj, sj, hp⟩ := hex
        have hnd : ¬ DownP P m (remB S i) := fun hdr => by
          have hji : j ≠ i := by rintro rfl; rw [hP] at hp; cases hp
          have := hdr j hj (remB_iff.2 ⟨sj, hji⟩) i hi hp
          exact (remB_iff.1 this).2 rfl
        have e : oS P m (remB S i) = 0 := by rw [oS, if_neg hnd]
        rw [e]; simp
    · have : lastB P m S i = false := by
        cases h : lastB P m S i
        · rfl
        · exact (hs (lastB_iff.1 h).1).elim
      rw [this]; simp [hs]
  · rw [oS, if_neg hd]
    refine (sumN_zero m fun i hi => ?_).symm
    by_cases hs : S i = true ∧ c i
    · rw [if_pos hs, oS, if_neg]
      intro hdr
      refine hd fun a ha sa j hj hp => ?_
      by_cases hai : a = i
      · subst hai
        exact (remB_iff.1 (h1 a ha hs.1 hs.2 j hj hp)).1
      · exact (remB_iff.1 (hdr a ha (remB_iff.2 ⟨sa, hai⟩) j hj hp)).1
    · rw [if_neg hs]
end Go.Proofs.Yteoajadcdjaalaa
