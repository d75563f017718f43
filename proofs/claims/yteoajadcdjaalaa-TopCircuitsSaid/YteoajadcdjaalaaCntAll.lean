/- Cnt, CntB, CntC, CntD, CntE in one text. -/
import Derived.Test.YteoajadcdjaalaaLev
/- In how many orders the numbers of a set may come, counted by the first ones and by the last ones. -/
namespace Go.Proofs.Yteoajadcdjaalaa

def sumN (f : Nat → Nat) : Nat → Nat
  | 0 => 0
  | m + 1 => sumN f m + f m
theorem sumN_congr {f g : Nat → Nat} : ∀ m, (∀ k, k < m → f k = g k) → sumN f m = sumN g m
  | 0, _ => rfl
  | m + 1, h => by rw [sumN, sumN, sumN_congr m (fun k hk => h k (by omega)), h m (by omega)]
theorem sumN_add (f g : Nat → Nat) : ∀ m, sumN (fun k => f k + g k) m = sumN f m + sumN g m
  | 0 => rfl
  | m + 1 => by rw [sumN, sumN, sumN, sumN_add f g m]; omega
theorem sumN_zero {f : Nat → Nat} : ∀ m, (∀ k, k < m → f k = 0) → sumN f m = 0
  | 0, _ => rfl
  | m + 1, h => by rw [sumN, sumN_zero m (fun k hk => h k (by omega)), h m (by omega)]
theorem sumN_comm (f : Nat → Nat → Nat) (n : Nat) : ∀ m, sumN (fun i => sumN (f i) n) m = sumN (fun k => sumN (fun i => f i k) m) n
  | 0 => (sumN_zero n fun _ _ => rfl).symm
  | m + 1 => by
    rw [sumN, sumN_comm f n m, ← sumN_add]; rfl
theorem sumN_mono {f g : Nat → Nat} : ∀ m, (∀ k, k < m → f k ≤ g k) → sumN f m ≤ sumN g m
  | 0, _ => Nat.le_refl _
  | m + 1, h => by
    rw [sumN, sumN]
    have := sumN_mono m (fun k hk => h k (by omega))
    have := h m (by omega)
    omega
theorem sumN_le {f : Nat → Nat} {b : Nat} : ∀ m, (∀ k, k < m → f k ≤ b) → sumN f m ≤ m * b
  | 0, _ => by simp [sumN]
  | m + 1, h => by
    rw [sumN, Nat.succ_mul]
    have := sumN_le m (fun k hk => h k (by omega))
    have := h m (by omega)
    omega
theorem sumN_ge {f : Nat → Nat} {j : Nat} : ∀ m, j < m → f j ≤ sumN f m
  | 0, h => by omega
  | m + 1, h => by
    rw [sumN]
    by_cases hj : j < m
    · have := sumN_ge (f := f) m hj; omega
    · obtain rfl : j = m := by omega
      omega
theorem sumN_ge2 {f : Nat → Nat} {i j : Nat} (hij : i < j) : ∀ m, j < m → f i + f j ≤ sumN f m
  | 0, h => by omega
  | m + 1, h => by
    rw [sumN]
    by_cases hj : j < m
    · have := sumN_ge2 (f := f) hij m hj; omega
    · obtain rfl : j = m := by omega
      have := sumN_ge (f := f) j hij; omega
theorem sumN_one {f : Nat → Nat} {j : Nat} : ∀ m, j < m → (∀ k, k < m → k ≠ j → f k = 0) → sumN f m = f j
  | 0, h, _ => by omega
  | m + 1, h, h0 => by
    rw [sumN]
    by_cases hj : j < m
    · rw [sumN_one m hj (fun k hk => h0 k (by omega)), h0 m (by omega) (by omega), Nat.add_zero]
    · obtain rfl : j = m := by omega
      rw [sumN_zero j (fun k hk => h0 k (by omega) (by omega))]; omega

/-- The numbers a and a + 1 exchanged. -/
def sw (a k : Nat) : Nat := if k = a then a + 1 else if k = a + 1 then a else k
theorem sw_sw (a k : Nat) : sw a (sw a k) = k := by unfold sw; split <;> (try split) <;> (try split) <;> omega
theorem sw_lt {a k m : Nat} (h : a + 1 < m) (hk : k < m) : sw a k < m := by unfold sw; split <;> (try split) <;> omega
theorem sumN_sw (f : Nat → Nat) (a : Nat) : ∀ m, a + 1 < m → sumN (fun k => f (sw a k)) m = sumN f m
  | 0, h => by omega
  | m + 1, h => by
    by_cases ha : a + 1 < m
    · rw [sumN, sumN, sumN_sw f a m ha]
      have : sw a m = m := by unfold sw; split <;> (try split) <;> omega
      rw [this]
    · obtain rfl : m = a + 1 := by omega
      rw [sumN, sumN, sumN, sumN]
      have e : sumN (fun k => f (sw a k)) a = sumN f a := sumN_congr a fun k hk => by
        have : sw a k = k := by unfold sw; split <;> (try split) <;> omega
        rw [this]
      have e1 : sw a a = a + 1 := by simp [sw]
      have e2 : sw a (a + 1) = a := by simp [sw]
      rw [e, e1, e2]; omega

def remB (S : Nat → Bool) (i : Nat) : Nat → Bool := fun k => S k && k != i
/-- i may be the first one of S: no j of S must come before it. -/
def firstB (P : Nat → Nat → Bool) (m : Nat) (S : Nat → Bool) (i : Nat) : Bool := S i && (List.range m).all fun j => !(S j && P j i)
def lastB (P : Nat → Nat → Bool) (m : Nat) (S : Nat → Bool) (i : Nat) : Bool := S i && (List.range m).all fun j => !(S j && P i j)
theorem firstB_iff {P : Nat → Nat → Bool} {m : Nat} {S : Nat → Bool} {i : Nat} : firstB P m S i = true ↔ S i = true ∧ ∀ j, j < m → S j = true → P j i = false := by
  simp only [firstB, Bool.and_eq_true, List.all_eq_true, List.mem_range, Bool.not_eq_true', Bool.and_eq_false_iff]
  constructor
  · rintro ⟨h1, h2⟩
    refine ⟨h1, fun j hj hs => ?_⟩
    rcases h2 j hj with h | h
    · rw [hs] at h; cases h
    · exact h
  · rintro ⟨h1, h2⟩
    refine ⟨h1, fun j hj => ?_⟩
    cases hs : S j
    · exact .inl rfl
    · exact .inr (h2 j hj hs)
theorem lastB_iff {P : Nat → Nat → Bool} {m : Nat} {S : Nat → Bool} {i : Nat} : lastB P m S i = true ↔ S i = true ∧ ∀ j, j < m → S j = true → P i j = false := firstB_iff (P := fun a b => P b a)
theorem remB_iff {S : Nat → Bool} {i k : Nat} : remB S i k = true ↔ S k = true ∧ k ≠ i := by simp [remB]
theorem remB_comm (S : Nat → Bool) (i k : Nat) : remB (remB S i) k = remB (remB S k) i := by
  funext x; unfold remB; cases S x <;> cases (x != i) <;> cases (x != k) <;> rfl

def Fc (P : Nat → Nat → Bool) (m : Nat) : Nat → (Nat → Bool) → Nat
  | 0, _ => 1
  | n + 1, S => sumN (fun i => if firstB P m S i = true then Fc P m n (remB S i) else 0) m
def Ec (P : Nat → Nat → Bool) (m : Nat) : Nat → (Nat → Bool) → Nat
  | 0, _ => 1
  | n + 1, S => sumN (fun i => if lastB P m S i = true then Ec P m n (remB S i) else 0) m
def card (m : Nat) (S : Nat → Bool) : Nat := sumN (fun i => if S i = true then 1 else 0) m
theorem card_rem {S : Nat → Bool} {i : Nat} (hs : S i = true) : ∀ m, i < m → card m (remB S i) + 1 = card m S
  | 0, h => by omega
  | m + 1, h => by
    rw [card, card, sumN, sumN]
    by_cases hi : i < m
    · have := card_rem hs m hi
      rw [card, card] at this
      have e : remB S i m = S m := by simp [remB, show m ≠ i by omega]
      rw [e]; omega
    · obtain rfl : i = m := by omega
      have e : sumN (fun k => if remB S i k = true then 1 else 0) i = sumN (fun k => if S k = true then 1 else 0) i := sumN_congr i fun k hk => by
        have : remB S i k = S k := by simp [remB, show k ≠ i by omega]
        rw [this]
      have e2 : remB S i i = false := by simp [remB]
      rw [e, e2, hs]; simp
theorem card_one {m : Nat} {S : Nat → Bool} (h : card m S = 1) {i j : Nat} (hi : i < m) (hj : j < m) (si : S i = true) (sj : S j = true) : i = j := by
  have key : ∀ a b, a < b → b < m → S a = true → S b = true → False := fun a b hab hb sa sb => by
    have := sumN_ge2 (f := fun i => if S i = true then 1 else 0) hab m hb
    simp only [sa, sb, if_true] at this
    rw [card] at h; omega
  rcases Nat.lt_trichotomy i j with h1 | h1 | h1
  · exact (key i j h1 hj si sj).elim
  · exact h1
  · exact (key j i h1 hi sj si).elim

theorem first_last {P : Nat → Nat → Bool} {m : Nat} {S : Nat → Bool} {i k : Nat} (hi : i < m) (hk : k < m) :
    (firstB P m S i = true ∧ lastB P m (remB S i) k = true) ↔ (lastB P m S k = true ∧ firstB P m (remB S k) i = true) := by
  rw [firstB_iff, lastB_iff, lastB_iff, firstB_iff]
  simp only [remB_iff]
  constructor
  · rintro ⟨⟨a1, a2⟩, ⟨b1, b2⟩, b3⟩
    refine ⟨⟨b1, fun j hj sj => ?_⟩, ⟨a1, fun h => b2 h.symm⟩, fun j hj sj => a2 j hj sj.1⟩
    by_cases h : j = i
    · subst h; exact a2 k hk b1
    · exact b3 j hj ⟨sj, h⟩
  · rintro ⟨⟨a1, a2⟩, ⟨b1, b2⟩, b3⟩
    refine ⟨⟨b1, fun j hj sj => ?_⟩, ⟨a1, fun h => b2 h.symm⟩, fun j hj sj => a2 j hj sj.1⟩
    by_cases h : j = k
    · subst h; exact a2 i hi b1
    · exact b3 j hj ⟨sj, h⟩

theorem if_sumN {c : Prop} [Decidable c] (f : Nat → Nat) (m : Nat) : (if c then sumN f m else 0) = sumN (fun k => if c then f k else 0) m := by
  by_cases h : c
  · simp [h]
  · rw [if_neg h, sumN_zero m]; intro k _; rw [if_neg h]
theorem if_if {c d : Prop} [Decidable c] [Decidable d] (x : Nat) : (if c then (if d then x else 0) else 0) = if c ∧ d then x else 0 := by
  by_cases hc : c <;> by_cases hd : d <;> simp [hc, hd]

theorem Fc_Ec {P : Nat → Nat → Bool} {m : Nat} (hP : ∀ i, P i i = false) : ∀ n S, card m S = n → Fc P m n S = Ec P m n S := by
  intro n
  induction n using Nat.strongRecOn with
  | ind n ih =>
    intro S hS
    rcases n with _ | _ | n
    · rfl
    · rw [Fc, Ec]
      refine sumN_congr m fun i hi => ?_
      have e : firstB P m S i = lastB P m S i := by
        rw [Bool.eq_iff_iff, firstB_iff, lastB_iff]
        constructor
        · rintro ⟨h, _⟩; exact ⟨h, fun j hj sj => by rw [card_one hS hj hi sj h]; exact hP i⟩
        · rintro ⟨h, _⟩; exact ⟨h, fun j hj sj => by rw [card_one hS hj hi sj h]; exact hP i⟩
      rw [e]; rfl
    · have hf : Fc P m (n + 2) S = sumN (fun i => sumN (fun k => if firstB P m S i = true ∧ lastB P m (remB S i) k = true then Ec P m n (remB (remB S i) k) else 0) m) m := by
        rw [Fc]
        refine sumN_congr m fun i hi => ?_
        by_cases h : firstB P m S i = true
        · have hc := card_rem (firstB_iff.1 h).1 m hi
          rw [if_pos h, ih (n + 1) (by omega) _ (by omega), Ec]
          refine sumN_congr m fun k _ => ?_
          simp [h]
        · rw [if_neg h, sumN_zero m]
          intro k _; simp [h]
      have he : Ec P m (n + 2) S = sumN (fun k => sumN (fun i => if lastB P m S k = true ∧ firstB P m (remB S k) i = true then Fc P m n (remB (remB S k) i) else 0) m) m := by
        rw [Ec]
        refine sumN_congr m fun i hi => ?_
        by_cases h : lastB P m S i = true
        · have hc := card_rem (lastB_iff.1 h).1 m hi
          rw [if_pos h, ← ih (n + 1) (by omega) _ (by omega), Fc]
          refine sumN_congr m fun k _ => ?_
          simp [h]
        · rw [if_neg h, sumN_zero m]
          intro k _; simp [h]
      rw [hf, he, sumN_comm]
      refine sumN_congr m fun k hk => sumN_congr m fun i hi => ?_
      by_cases h : firstB P m S i = true ∧ lastB P m (remB S i) k = true
      · rw [if_pos h, if_pos ((first_last hi hk).1 h), remB_comm S k i]
        have h1 := card_rem (firstB_iff.1 h.1).1 m hi
        have h2 := card_rem (lastB_iff.1 h.2).1 m hk
        exact (ih n (by omega) (remB (remB S i) k) (by omega)).symm
      · rw [if_neg h, if_neg fun h' => h ((first_last hi hk).2 h')]

theorem Fc_pos {P : Nat → Nat → Bool} {m : Nat} (hP : ∀ j i, P j i = true → j < i) : ∀ n S, card m S = n → 1 ≤ Fc P m n S
  | 0, S, _ => by rw [Fc]; omega
  | n + 1, S, h => by
    -- the smallest one
    have hex : ∃ i, i < m ∧ S i = true ∧ ∀ j, j < i → S j = false := by
      have : ∀ b, b ≤ m → (∃ i, i < b ∧ S i = true ∧ ∀ j, j < i → S j = false) ∨ ∀ j, j < b → S j = false := by
        intro b
        induction b with
        | zero => intro _; exact .inr fun j hj => by omega
        | succ b ihb =>
          intro hb
          rcases ihb (by omega) with ⟨i, h1, h2⟩ | h0
          · exact .inl ⟨i, by omega, h2⟩
          · cases hs : S b
            · exact .inr fun j hj => by
                by_cases hjb : j = b
                · subst hjb; exact hs
                · exact h0 j (by omega)
            · exact .inl ⟨b, by omega, hs, h0⟩
      rcases this m (Nat.le_refl _) with h1 | h1
      · exact h1
      · have : card m S = 0 := sumN_zero m fun k hk => by simp [h1 k hk]
        omega
    obtain ⟨i, hi, si, hmin⟩ := hex
    have hf : firstB P m S i = true := firstB_iff.2 ⟨si, fun j hj sj => by
      cases hp : P j i
      · rfl
      · have := hP j i hp
        rw [hmin j this] at sj; cases sj⟩
    have hc := card_rem si m hi
    have h1 := Fc_pos (m := m) hP n (remB S i) (by omega)
    have h2 := sumN_ge (f := fun i => if firstB P m S i = true then Fc P m n (remB S i) else 0) m hi
    rw [Fc]
    simp only [hf, if_true] at h2
    omega

theorem Ec_le (P : Nat → Nat → Bool) (m : Nat) : ∀ n S, Ec P m n S ≤ m ^ n
  | 0, _ => by simp [Ec]
  | n + 1, S => by
    rw [Ec, Nat.pow_succ, Nat.mul_comm]
    refine sumN_le m fun k _ => ?_
    split
    · exact Ec_le P m n _
    · exact Nat.zero_le _
theorem Ec_congr (P : Nat → Nat → Bool) (m : Nat) : ∀ n (S T : Nat → Bool), (∀ k, k < m → S k = T k) → Ec P m n S = Ec P m n T
  | 0, _, _, _ => rfl
  | n + 1, S, T, h => by
    rw [Ec, Ec]
    refine sumN_congr m fun i hi => ?_
    have e : lastB P m S i = lastB P m T i := by
      rw [Bool.eq_iff_iff, lastB_iff, lastB_iff, h i hi]
      constructor
      · rintro ⟨a, b⟩; exact ⟨a, fun j hj sj => b j hj (by rw [h j hj]; exact sj)⟩
      · rintro ⟨a, b⟩; exact ⟨a, fun j hj sj => b j hj (by rw [← h j hj]; exact sj)⟩
    rw [e, Ec_congr P m n (remB S i) (remB T i) fun k hk => by simp [remB, h k hk]]
theorem card_congr {m : Nat} {S T : Nat → Bool} (h : ∀ k, k < m → S k = T k) : card m S = card m T := sumN_congr m fun k hk => by rw [h k hk]

/-- All of S that is below one of S is in S. -/
def DownP (P : Nat → Nat → Bool) (m : Nat) (S : Nat → Bool) : Prop := ∀ i, i < m → S i = true → ∀ j, j < m → P j i = true → S j = true
instance (P : Nat → Nat → Bool) (m : Nat) (S : Nat → Bool) : Decidable (DownP P m S) := inferInstanceAs (Decidable (∀ i, i < m → _))
theorem DownP_congr {P : Nat → Nat → Bool} {m : Nat} {S T : Nat → Bool} (h : ∀ k, k < m → S k = T k) : DownP P m S ↔ DownP P m T := by
  unfold DownP
  constructor
  · intro hd i hi si j hj hp; rw [← h j hj]; exact hd i hi (by rw [h i hi]; exact si) j hj hp
  · intro hd i hi si j hj hp; rw [h j hj]; exact hd i hi (by rw [← h i hi]; exact si) j hj hp

/-- In how many orders the ones of S may come first; 0 where they can't. -/
def oS (P : Nat → Nat → Bool) (m : Nat) (S : Nat → Bool) : Nat := if DownP P m S then Ec P m (card m S) S else 0
theorem oS_congr {P : Nat → Nat → Bool} {m : Nat} {S T : Nat → Bool} (h : ∀ k, k < m → S k = T k) : oS P m S = oS P m T := by
  unfold oS
  rw [card_congr h, Ec_congr P m _ S T h]
  by_cases hd : DownP P m S
  · rw [if_pos hd, if_pos ((DownP_congr h).1 hd)]
  · rw [if_neg hd, if_neg fun h' => hd ((DownP_congr h).2 h')]
theorem oS_le (P : Nat → Nat → Bool) (m : Nat) (S : Nat → Bool) : oS P m S ≤ m ^ card m S := by
  unfold oS
  split
  · exact Ec_le _ _ _ _
  · exact Nat.zero_le _

/-- One step back: any condition on the last one that says at least 'all below it are in S', and holds of those that may be the last. -/
theorem oS_step {P : Nat → Nat → Bool} {m : Nat} {S : Nat → Bool} (hP : ∀ i, P i i = false) (c : Nat → Prop) [DecidablePred c]
    (h1 : ∀ i, i < m → S i = true → c i → ∀ j, j < m → P j i = true → remB S i j = true)
    (h2 : ∀ i, i < m → lastB P m S i = true → (∀ j, j < m → P j i = true → S j = true) → c i)
    (hn : ∃ k, k < m ∧ S k = true) :
    oS P m S = sumN (fun i => if S i = true ∧ c i then oS P m (remB S i) else 0) m := by
  obtain ⟨n, hc⟩ : ∃ n, card m S = n + 1 := by
    obtain ⟨k, hk, sk⟩ := hn
    have := sumN_ge (f := fun i => if S i = true then 1 else 0) m hk
    simp only [sk, if_true] at this
    exact ⟨card m S - 1, by rw [card]; omega⟩
  by_cases hd : DownP P m S
  · rw [oS, if_pos hd, hc, Ec]
    refine sumN_congr m fun i hi => ?_
    by_cases hs : S i = true
    · have hc' : card m (remB S i) = n := by have := card_rem hs m hi; omega
      by_cases hl : lastB P m S i = true
      · have hdr : DownP P m (remB S i) := by
          intro a ha sa j hj hp
          rw [remB_iff] at sa ⊢
          refine ⟨hd a ha sa.1 j hj hp, ?_⟩
          rintro rfl
          have := (lastB_iff.1 hl).2 a ha sa.1
          rw [hp] at this; cases this
        have hci := h2 i hi hl (hd i hi hs)
        rw [if_pos hl, if_pos ⟨hs, hci⟩, oS, if_pos hdr, hc']
      · rw [if_neg hl]
        have hex : ∃ j, j < m ∧ S j = true ∧ P i j = true := by
          by_cases he : ∃ j, j < m ∧ S j = true ∧ P i j = true
          · exact he
          · exact (hl (lastB_iff.2 ⟨hs, fun j hj sj => by
              cases hp : P i j
              · rfl
              · exact (he ⟨j, hj, sj, hp⟩).elim⟩)).elim
        obtain ⟨j, hj, sj, hp⟩ := hex
        have hnd : ¬ DownP P m (remB S i) := fun hdr => by
          have hji : j ≠ i := by rintro rfl; rw [hP] at hp; cases hp
          have := hdr j hj (remB_iff.2 ⟨sj, hji⟩) i hi hp
          exact (remB_iff.1 this).2 rfl
        have e : oS P m (remB S i) = 0 := by rw [oS, if_neg hnd]
        rw [e]; simp
    · have : lastB P m S i = false := by
        cases h : lastB P m S i
        · rfl
        · exact (hs (lastB_iff.1 h).1).elim
      rw [this]; simp [hs]
  · rw [oS, if_neg hd]
    refine (sumN_zero m fun i hi => ?_).symm
    by_cases hs : S i = true ∧ c i
    · rw [if_pos hs, oS, if_neg]
      intro hdr
      refine hd fun a ha sa j hj hp => ?_
      by_cases hai : a = i
      · subst hai
        exact (remB_iff.1 (h1 a ha hs.1 hs.2 j hj hp)).1
      · exact (remB_iff.1 (hdr a ha (remB_iff.2 ⟨sa, hai⟩) j hj hp)).1
    · rw [if_neg hs]
end Go.Proofs.Yteoajadcdjaalaa

/- The tables of the orders: the sets of gates are the bits of a number below 1024. -/
namespace Go.Proofs.Yteoajadcdjaalaa
open Go.RowKit

theorem bit_facts : ∀ X, X < 1024 → ∀ i, i < 10 → (X.testBit i = true → (X - 2 ^ i) ||| 2 ^ i = X ∧ (X - 2 ^ i).testBit i = false ∧ 2 ^ i ≤ X) ∧ (X.testBit i = false → X ||| 2 ^ i = X + 2 ^ i ∧ (X + 2 ^ i).testBit i = true) ∧ (X / 2 ^ i % 2 = if X.testBit i then 1 else 0) := by decide +kernel
theorem bit_rem {X i : Nat} (hX : X < 1024) (hi : i < 10) (h : X.testBit i = true) (k : Nat) : (X - 2 ^ i).testBit k = remB X.testBit i k := by
  obtain ⟨h1, h2, _⟩ := (bit_facts X hX i hi).1 h
  by_cases hk : k = i
  · subst hk; rw [h2]; simp [remB]
  · have : X.testBit k = (X - 2 ^ i).testBit k := by
      have e : X.testBit k = ((X - 2 ^ i) ||| 2 ^ i).testBit k := by rw [h1]
      rw [e, Nat.testBit_or, Nat.testBit_two_pow]; simp [show ¬ i = k from fun h => hk h.symm]
    simp [remB, hk, this]
theorem pow_ten {m : Nat} (hm : m ≤ 10) : 2 ^ m ≤ 1024 := Nat.pow_le_pow_right (by omega) hm
theorem bit_lt {X m i : Nat} (hX : X < 2 ^ m) (h : X.testBit i = true) : i < m := by
  rcases Nat.lt_or_ge i m with h1 | h1
  · exact h1
  · have := Nat.testBit_lt_two_pow (Nat.lt_of_lt_of_le hX (Nat.pow_le_pow_right (by omega) h1)); rw [h] at this; cases this

/-- The gate j comes before the gate i in all circuits that are alike. -/
def tb (l : List G) (j i : Nat) : Bool := decide (j < i) && tiedG (l.getD j g0) (l.getD i g0)
theorem tb_irr (l : List G) (i : Nat) : tb l i i = false := by simp [tb]
theorem tb_lt {l : List G} {j i : Nat} (h : tb l j i = true) : j < i := by simp [tb] at h; exact h.1
/-- In how many orders the gates of the set X may come first. -/
def oX (l : List G) (X : Nat) : Nat := oS (tb l) l.length X.testBit
/-- In how many orders all gates may come. -/
def cntL (l : List G) : Nat := oX l (2 ^ l.length - 1)
theorem oX_zero (l : List G) : oX l 0 = 1 := by
  have hc : card l.length (Nat.testBit 0) = 0 := sumN_zero _ fun k _ => by simp
  rw [oX, oS, if_pos, hc, Ec]
  intro i _ hs; simp at hs
theorem oX_rem {l : List G} {X i : Nat} (hm : l.length ≤ 10) (hX : X < 2 ^ l.length) (hi : i < l.length) (h : X.testBit i = true) : oX l (X - 2 ^ i) = oS (tb l) l.length (remB X.testBit i) :=
  oS_congr fun k _ => bit_rem (Nat.lt_of_lt_of_le hX (pow_ten hm)) (by omega) h k
theorem oX_le {l : List G} (X : Nat) (hm : l.length ≤ 10) : oX l X ≤ 10000000000 := by
  have h1 := oS_le (tb l) l.length X.testBit
  have h2 : card l.length X.testBit ≤ l.length := by
    have := sumN_le (f := fun i => if X.testBit i = true then 1 else 0) (b := 1) l.length fun k _ => by by_cases h : X.testBit k = true <;> simp [h]
    rw [card]; omega
  have h3 : l.length ^ card l.length X.testBit ≤ 10 ^ card l.length X.testBit := Nat.pow_le_pow_left hm _
  have h4 : 10 ^ card l.length X.testBit ≤ 10 ^ 10 := Nat.pow_le_pow_right (by omega) (by omega)
  have h5 : (10 : Nat) ^ 10 = 10000000000 := by decide
  rw [oX]; omega

/-- The gates before i to which it is tied are all in the set D. -/
def subP (l : List G) (i D : Nat) : Prop := ∀ j, j < l.length → tb l j i = true → D.testBit j = true
instance (l : List G) (i D : Nat) : Decidable (subP l i D) := inferInstanceAs (Decidable (∀ j, j < l.length → _))
theorem nonzero_bit {X m : Nat} (hX : X < 2 ^ m) (h0 : X ≠ 0) : ∃ k, k < m ∧ X.testBit k = true := by
  obtain ⟨k, hk⟩ := Nat.exists_testBit_of_ne_zero h0
  exact ⟨k, bit_lt hX hk, hk⟩
theorem oX_step {l : List G} {X : Nat} (hm : l.length ≤ 10) (hX : X < 2 ^ l.length) (h0 : X ≠ 0) : oX l X = sumN (fun i => if X.testBit i = true ∧ subP l i (X - 2 ^ i) then oX l (X - 2 ^ i) else 0) l.length := by
  have hX' := Nat.lt_of_lt_of_le hX (pow_ten hm)
  rw [oX, oS_step (tb_irr l) (fun i => subP l i (X - 2 ^ i)) ?_ ?_ (nonzero_bit hX h0)]
  · refine sumN_congr _ fun i hi => ?_
    by_cases h : X.testBit i = true ∧ subP l i (X - 2 ^ i)
    · rw [if_pos h, if_pos h, oX_rem hm hX hi h.1]
    · rw [if_neg h, if_neg h]
  · intro i hi hs hc j hj hp
    rw [← bit_rem hX' (by omega) hs j]; exact hc j hj hp
  · intro i hi hl hd j hj hp
    have hs := (lastB_iff.1 hl).1
    rw [bit_rem hX' (by omega) hs j, remB_iff]
    exact ⟨hd j hj hp, by have := tb_lt hp; omega⟩

/-- The table while the set d and its gate i are under way. -/
def pX (l : List G) (d i X : Nat) : Nat := (if X = 0 then 1 else 0) + sumN (fun a => if (X.testBit a = true ∧ subP l a (X - 2 ^ a)) ∧ (X - 2 ^ a < d ∨ X - 2 ^ a = d ∧ a < i) then oX l (X - 2 ^ a) else 0) l.length
theorem pX_start (l : List G) (X : Nat) : pX l 0 0 X = if X = 0 then 1 else 0 := by
  rw [pX, sumN_zero, Nat.add_zero]
  intro k _
  rw [if_neg]
  rintro ⟨_, h | ⟨_, h⟩⟩ <;> omega
theorem pX_turn (l : List G) (d X : Nat) : pX l d l.length X = pX l (d + 1) 0 X := by
  rw [pX, pX]
  congr 1
  refine sumN_congr _ fun a ha => ?_
  by_cases h : (X.testBit a = true ∧ subP l a (X - 2 ^ a)) ∧ (X - 2 ^ a < d ∨ X - 2 ^ a = d ∧ a < l.length)
  · rw [if_pos h, if_pos ⟨h.1, by have := h.2; omega⟩]
  · rw [if_neg h, if_neg]
    rintro ⟨h1, h2⟩
    exact h ⟨h1, by omega⟩
theorem pX_done {l : List G} {d i X : Nat} (hm : l.length ≤ 10) (hX : X < 2 ^ l.length) (h : X ≤ d) : pX l d i X = oX l X := by
  by_cases h0 : X = 0
  · subst h0
    rw [pX, oX_zero, sumN_zero]; · rfl
    intro k _; rw [if_neg]; simp
  · rw [oX_step hm hX h0, pX, if_neg h0, Nat.zero_add]
    refine sumN_congr _ fun a ha => ?_
    by_cases hc : X.testBit a = true ∧ subP l a (X - 2 ^ a)
    · have hp : 0 < 2 ^ a := Nat.two_pow_pos a
      rw [if_pos hc, if_pos ⟨hc, .inl (by omega)⟩]
    · rw [if_neg hc, if_neg fun h => hc h.1]
theorem pX_le {l : List G} {d i X : Nat} (hm : l.length ≤ 10) (hX : X < 2 ^ l.length) : pX l d i X ≤ oX l X := by
  rw [← pX_done (d := X) (i := 0) hm hX (Nat.le_refl _), pX, pX]
  refine Nat.add_le_add_left (sumN_mono _ fun a _ => ?_) _
  by_cases hc : X.testBit a = true ∧ subP l a (X - 2 ^ a)
  · have hp : 0 < 2 ^ a := Nat.two_pow_pos a
    by_cases h0 : X = 0
    · subst h0; simp at hc
    · rw [if_pos (c := _ ∧ (X - 2 ^ a < X ∨ _)) ⟨hc, .inl (by omega)⟩]
      split
      · exact Nat.le_refl _
      · exact Nat.zero_le _
  · rw [if_neg fun h => hc h.1]; exact Nat.zero_le _
theorem sumN_upd {f g : Nat → Nat} {i : Nat} : ∀ m, i < m → (∀ k, k < m → k ≠ i → g k = f k) → f i = 0 → sumN g m = sumN f m + g i
  | 0, h, _, _ => by omega
  | m + 1, h, he, h0 => by
    rw [sumN, sumN]
    by_cases hi : i < m
    · rw [sumN_upd m hi (fun k hk => he k (by omega)) h0, he m (by omega) (by omega)]; omega
    · obtain rfl : i = m := by omega
      rw [sumN_congr i fun k hk => he k (by omega) (by omega), h0, Nat.add_zero]
/-- The step: the set d and the gate i, which is not in it. -/
theorem pX_next {l : List G} {d i : Nat} (hm : l.length ≤ 10) (hd : d < 2 ^ l.length) (hi : i < l.length) (hb : d.testBit i = false) (hs : subP l i d) : pX l d (i + 1) (d + 2 ^ i) = pX l d i (d + 2 ^ i) + oX l d := by
  have hd' := Nat.lt_of_lt_of_le hd (pow_ten hm)
  have hb1 := ((bit_facts d hd' i (by omega)).2.1 hb).2
  have he : d + 2 ^ i - 2 ^ i = d := by omega
  have key := sumN_upd (i := i)
    (f := fun a => if ((d + 2 ^ i).testBit a = true ∧ subP l a (d + 2 ^ i - 2 ^ a)) ∧ (d + 2 ^ i - 2 ^ a < d ∨ d + 2 ^ i - 2 ^ a = d ∧ a < i) then oX l (d + 2 ^ i - 2 ^ a) else 0)
    (g := fun a => if ((d + 2 ^ i).testBit a = true ∧ subP l a (d + 2 ^ i - 2 ^ a)) ∧ (d + 2 ^ i - 2 ^ a < d ∨ d + 2 ^ i - 2 ^ a = d ∧ a < i + 1) then oX l (d + 2 ^ i - 2 ^ a) else 0) l.length hi ?_ ?_
  · rw [pX, pX, key]
    simp only [he, hb1, hs]
    simp
  · intro k hk hki
    have e : (k < i + 1) = (k < i) := by apply propext; omega
    simp only [e]
  · simp only [he]
    rw [if_neg]
    rintro ⟨_, h | ⟨_, h⟩⟩ <;> omega
theorem pX_same {l : List G} {d i X : Nat} (h : ¬ (X.testBit i = true ∧ X - 2 ^ i = d ∧ subP l i d)) : pX l d (i + 1) X = pX l d i X := by
  rw [pX, pX]
  congr 1
  refine sumN_congr _ fun a ha => ?_
  by_cases hai : a = i
  · subst hai
    by_cases hc : X.testBit a = true ∧ subP l a (X - 2 ^ a)
    · have e : ¬ (X - 2 ^ a = d) := fun he => h ⟨hc.1, he, by rw [← he]; exact hc.2⟩
      simp [e]
    · rw [if_neg fun h => hc h.1, if_neg fun h => hc h.1]
  · have e : (a < i + 1) = (a < i) := by apply propext; omega
    simp only [e]

/-- A row given by a function. -/
def rowF (n : Nat) (f : Nat → Int) : List Int := (List.range n).map f
theorem rowF_len (n : Nat) (f : Nat → Int) : (rowF n f).length = n := by simp [rowF]
theorem rowF_get {n : Nat} {f : Nat → Int} {k : Nat} (h : k < n) : (rowF n f).getD k 0 = f k := by simp [rowF, List.getD_eq_getElem?_getD, h]
theorem rowF_set {n : Nat} {f g : Nat → Int} {k : Nat} {v : Int} (hv : g k = v) (h : ∀ a, a < n → a ≠ k → g a = f a) : (rowF n f).set k v = rowF n g := by
  apply List.ext_getElem
  · simp [rowF]
  · intro i h1 h2
    simp [rowF] at h1
    rw [List.getElem_set]
    split
    · rename_i e; subst e; simp [rowF, hv]
    · rename_i e; simp [rowF, h i h1 (fun h => e h.symm)]
theorem rowF_congr {n : Nat} {f g : Nat → Int} (h : ∀ a, a < n → f a = g a) : rowF n f = rowF n g := by
  apply List.map_congr_left; intro a ha; exact h a (List.mem_range.1 ha)
theorem rowF_zero (n : Nat) : List.replicate n (0 : Int) = rowF n fun _ => 0 := by
  apply List.ext_getElem <;> simp [rowF]

/-- The gates before i to which it is tied, of the first j, as bits. -/
def bfX (l : List G) (i : Nat) : Nat → Nat
  | 0 => 0
  | j + 1 => if tiedG (l.getD j g0) (l.getD i g0) then bfX l i j ||| 2 ^ j else bfX l i j
theorem bfX_lt (l : List G) (i : Nat) : ∀ j, bfX l i j < 2 ^ j
  | 0 => by simp [bfX]
  | j + 1 => by
    have h := bfX_lt l i j
    have h2 : bfX l i j < 2 ^ (j + 1) := by rw [Nat.pow_succ]; omega
    rw [bfX]; split
    · exact Nat.or_lt_two_pow h2 (Nat.pow_lt_pow_right (by omega) (by omega))
    · exact h2
theorem bfX_bit (l : List G) (i k : Nat) : ∀ j, (bfX l i j).testBit k = (decide (k < j) && tiedG (l.getD k g0) (l.getD i g0))
  | 0 => by simp [bfX]
  | j + 1 => by
    have h := bfX_bit l i k j
    rw [bfX]
    by_cases ht : tiedG (l.getD j g0) (l.getD i g0) = true
    · rw [if_pos ht, Nat.testBit_or, Nat.testBit_two_pow, h]
      by_cases hk : j = k
      · subst hk; rw [ht]; simp
      · have : (k < j + 1) = (k < j) := by apply propext; omega
        simp [hk, this]
    · rw [if_neg ht, h]
      by_cases hk : j = k
      · subst hk; rw [Bool.not_eq_true] at ht; rw [ht]; simp
      · have : (k < j + 1) = (k < j) := by apply propext; omega
        simp [this]
theorem bfX_tb (l : List G) (i k : Nat) : (bfX l i i).testBit k = tb l k i := bfX_bit l i k i
end Go.Proofs.Yteoajadcdjaalaa

/- The program's count: the sets of gates before each gate, and the table. -/
namespace Go.Proofs.Yteoajadcdjaalaa
open Go.RowKit

theorem or_i64 (a b : Nat) (ha : a < 9223372036854775808) (hb : b < 9223372036854775808) : bits .or .i64 (a : Int) (b : Int) = ((a ||| b : Nat) : Int) := by
  have h : a ||| b < 2 ^ 63 := Nat.or_lt_two_pow (by omega) (by omega)
  have h1 : (BitVec.ofInt 64 (a : Int)).toNat = a := by rw [BitVec.toNat_ofInt]; omega
  have h2 : (BitVec.ofInt 64 (b : Int)).toNat = b := by rw [BitVec.toNat_ofInt]; omega
  show IntKind.wrap .i64 ((BitVec.ofInt 64 (a : Int) ||| BitVec.ofInt 64 (b : Int)).toNat : Int) = _
  rw [BitVec.toNat_or, h1, h2]
  simp [IntKind.wrap, IntKind.bits, IntKind.signed]
  omega

/-- The row of the sets while the gate i is under way. -/
def bfRow (l : List G) (i j : Nat) : List Int := rowF l.length fun a => if a < i then (bfX l a a : Int) else if a = i then (bfX l i j : Int) else 0
def bfL (l : List G) : List Int := rowF l.length fun a => (bfX l a a : Int)
theorem bfRow_zero (l : List G) : List.replicate l.length 0 = bfRow l 0 0 := by
  rw [rowF_zero]; refine rowF_congr fun a _ => ?_
  by_cases h : a = 0 <;> simp [h, bfX]
theorem bfRow_next (l : List G) (i : Nat) : bfRow l i i = bfRow l (i + 1) 0 := rowF_congr fun a _ => by
  by_cases h : a < i
  · rw [if_pos h, if_pos (by omega)]
  · by_cases h2 : a = i
    · subst h2; rw [if_neg (by omega), if_pos rfl, if_pos (by omega)]
    · rw [if_neg h, if_neg h2, if_neg (by omega)]; simp [bfX]
theorem bfRow_all (l : List G) : bfRow l l.length 0 = bfL l := rowF_congr fun a h => by rw [if_pos h]
theorem bfRow_at {l : List G} {i j : Nat} (h : i < l.length) : (bfRow l i j).getD i 0 = (bfX l i j : Int) := by rw [bfRow, rowF_get h]; simp
theorem bfRow_set (l : List G) (i j j' : Nat) : (bfRow l i j).set i (bfX l i j' : Int) = bfRow l i j' :=
  rowF_set (by simp) fun a _ h => by simp [h]
theorem bfRow_len (l : List G) (i j : Nat) : (bfRow l i j).length = l.length := rowF_len _ _

set_option maxRecDepth 100000 in
set_option maxHeartbeats 2000000 in
theorem befores_c (A : Option Addr) (l : List G) (c : Nat) (w : World) (hlen : l.length ≤ 10) (hr : Rd w A (cellsG l)) :
    Calls Try.prog 92 #[.slice A l.length c] w fun e w' => e = .returned (.slice (some ⟨w.heap.size, 0, none⟩) l.length l.length) ∧ Row w' w.heap.size (bfL l) ∧ Below w.heap.size w w' := by
  obtain ⟨cs, hmk, hcs⟩ := make_ints l.length (by omega) w
  have hR0 : Row (w.alloc (.cells cs 3)) w.heap.size (bfRow l 0 0) := by rw [hcs, bfRow_zero]; exact Bx.new w _ _
  have hbl : Below w.heap.size w (w.alloc (.cells cs 3)) := bl_alloc (Below.refl _ _) _
  clear hcs
  go_enter Try.func92, Try.ntmps92
  go_wp2_with (fail)
  go_loopg [11] l.length (fun gk iv wr => ∃ i : Nat, i + gk = l.length ∧ iv = .int .i64 (i : Int) ∧ Row wr w.heap.size (bfRow l i 0) ∧ Below w.heap.size w wr)
  case atStart => exact ⟨0, by omega, rfl, hR0, hbl⟩
  case round =>
    obtain ⟨i, hi, rfl, hrow, hb⟩ := hrel
    clear hR0 hbl hmk
    rcases gk with _ | gi
    · obtain rfl : i = l.length := by omega
      rw [bfRow_all] at hrow
      go_wp2_with (fail)
      go_ret
      exact ⟨rfl, hrow, hb⟩
    · have hil : i < l.length := by omega
      have hil' : (i : Int) < (l.length : Int) := by omega
      have HT := fun (j : Nat) (hj : j < l.length) (w1 : World) (hb1 : Below w.heap.size w w1) => Lib.hid (tied_c A l c j i w1 (by omega) hj hil (hr.later hb1))
      go_wp2_with (fail)
      go_loopg [15] i (fun gk jv wi => ∃ j : Nat, j + gk = i ∧ jv = .int .i64 (j : Int) ∧ Row wi w.heap.size (bfRow l i j) ∧ Below w.heap.size w wi)
      case atStart => exact ⟨0, by omega, rfl, hrow, hb⟩
      case round =>
        obtain ⟨j, hj, rfl, hrow2, hb2⟩ := hrel
        rcases gk with _ | gj
        · obtain rfl : j = i := by omega
          rw [bfRow_next l] at hrow2
          go_wp2_with (fail)
          go_roundg gi
          case rel => exact ⟨j + 1, by omega, by go_num, hrow2, hb2⟩
          case measure => omega
        · have hji : (j : Int) < (i : Int) := by omega
          have HT1 := HT j (by omega) _ hb2
          have HE : Hid (bfX l i (j + 1) = if tiedG (l.getD j g0) (l.getD i g0) then bfX l i j ||| 2 ^ j else bfX l i j) := rfl
          have HL := bfRow_len l i j
          have HR1 := bfX_lt l i j
          generalize tiedG (l.getD j g0) (l.getD i g0) = tb at HT1 HE
          cases tb with
          | true =>
            go_wp2_with (fail)
            refine HT1.out.mono ?_
            rintro e w7 ⟨rfl, hb7⟩
            have hrow7 : Row w7 w.heap.size (bfRow l i j) := Bx.call hrow2 hb7
            have q1 := hrow7.get (k := i) (by omega)
            rw [bfRow_at hil] at q1
            have q3 := Bx.free hrow7 i
            have hset := hrow7.set i (bfX l i (j + 1) : Int)
            have hE : bfX l i (j + 1) = bfX l i j ||| 2 ^ j := by have h := HE.out; simpa using h
            rw [bfRow_set] at hset
            have hpj : 2 ^ j ≤ 2 ^ 10 := Nat.pow_le_pow_right (by omega) (by omega)
            have horn := or_i64 (bfX l i j) (2 ^ j) (by omega) (by omega)
            rw [← hE] at horn
            clear hE HE
            have hb8 := bl_call hb2 hb7
            have hbs := bl_set hb8 (Nat.le_refl w.heap.size) (i := i) (.int .i64 (bfX l i (j + 1) : Int))
            have hj64 : (j : Int) ≤ 64 := by omega
            have hsh : IntKind.i64.wrap ((2 : Int) ^ j) = ((2 ^ j : Nat) : Int) := by
              rw [Int.natCast_pow]; simp [IntKind.wrap, IntKind.bits, IntKind.signed]
              have : ((2 ^ j : Nat) : Int) = (2 : Int) ^ j := by simp
              omega
            generalize bfX l i j = cur at *
            generalize bfX l i (j + 1) = nxt at *
            generalize 2 ^ j = s at *
            go_wp2_with (fail)
            go_region
            go_wp2_with (fail)
            go_roundg gj
            case rel => exact ⟨j + 1, by omega, by go_num, Bx.drew hset, hbs.drew⟩
            case measure => omega
          | false =>
            go_wp2_with (fail)
            refine HT1.out.mono ?_
            rintro e w7 ⟨rfl, hb7⟩
            have hrow7 : Row w7 w.heap.size (bfRow l i j) := Bx.call hrow2 hb7
            have hE : bfRow l i (j + 1) = bfRow l i j := by have h := HE.out; simp at h; rw [bfRow, bfRow, h]
            rw [← hE] at hrow7
            clear hE HE
            go_wp2_with (fail)
            go_roundg gj
            case rel => exact ⟨j + 1, by omega, by go_num, hrow7, bl_call hb2 hb7⟩
            case measure => omega
end Go.Proofs.Yteoajadcdjaalaa

/- The program's table of orders. -/
namespace Go.Proofs.Yteoajadcdjaalaa
open Go.RowKit

theorem make_ints2 (n : Nat) (hn : n ≤ 1024) (w : World) : ∃ cs, (Instr.makeSlice 46 (.int .i64 n) (.int .i64 n)).run Try.prog w = .ok (.slice (some ⟨w.heap.size, 0, none⟩) n n) (w.alloc (.cells cs 3)) ∧ cs = (ints (List.replicate n 0)).toArray := by
  obtain ⟨i0, hi, hz0, hz1, hz2⟩ := info_parts int_info
  have h := run_make (P := Try.prog) w 46 3 i0 _ Try.underlying46 hi hz0 .i64 .i64 (n : Int) (n : Int) (by omega) (by omega) (by rw [hz2]; omega) (by omega)
  simp only [Int.toNat_natCast] at h
  refine ⟨_, h, ?_⟩
  rw [hz1, Nat.mul_one]
  apply Array.ext
  · simp [size_madeCells, ints]
  · intro i h1 h2
    simp [madeCells, ints, Value.cells]
    rw [Nat.mod_one]; rfl

theorem andNot_i64 (a b : Nat) (ha : a < 9223372036854775808) (hb : b < 9223372036854775808) : ∃ r : Nat, r < 9223372036854775808 ∧ bits .andNot .i64 (a : Int) (b : Int) = (r : Int) ∧ (r = 0 ↔ ∀ k, a.testBit k = true → b.testBit k = true) := by
  have h1 : (BitVec.ofInt 64 (a : Int)).toNat = a := by rw [BitVec.toNat_ofInt]; omega
  have h2 : (BitVec.ofInt 64 (b : Int)).toNat = b := by rw [BitVec.toNat_ofInt]; omega
  have hle : (BitVec.ofInt 64 (a : Int) &&& ~~~BitVec.ofInt 64 (b : Int)).toNat ≤ a := by
    rw [BitVec.toNat_and, h1]; exact Nat.and_le_left
  have hbit : ∀ k, (BitVec.ofInt 64 (a : Int) &&& ~~~BitVec.ofInt 64 (b : Int)).toNat.testBit k = (a.testBit k && !b.testBit k) := by
    intro k
    rw [BitVec.toNat_and, Nat.testBit_and, h1]
    by_cases hk : k < 64
    · have : (~~~BitVec.ofInt 64 (b : Int)).toNat.testBit k = !b.testBit k := by
        rw [BitVec.testBit_toNat, BitVec.getLsbD_not, ← BitVec.testBit_toNat, h2]; simp [hk]
      rw [this]
    · have : a.testBit k = false := Nat.testBit_lt_two_pow (Nat.lt_of_lt_of_le (show a < 2 ^ 64 by omega) (Nat.pow_le_pow_right (by omega) (by omega)))
      simp [this]
  refine ⟨(BitVec.ofInt 64 (a : Int) &&& ~~~BitVec.ofInt 64 (b : Int)).toNat, by omega, ?_, ?_⟩
  · show IntKind.wrap .i64 ((BitVec.ofInt 64 (a : Int) &&& ~~~BitVec.ofInt 64 (b : Int)).toNat : Int) = _
    generalize (BitVec.ofInt 64 (a : Int) &&& ~~~BitVec.ofInt 64 (b : Int)).toNat = r at *
    simp [IntKind.wrap, IntKind.bits, IntKind.signed]
    omega
  · constructor
    · intro h k hk
      have := hbit k
      rw [h, hk] at this
      simpa using this.symm
    · intro h
      apply Nat.eq_of_testBit_eq
      intro k
      rw [hbit k]
      cases hk : a.testBit k
      · simp
      · simp [h k hk]

theorem bit_i64 {D i : Nat} (hD : D < 1024) (hi : i < 10) : bits .and .i64 ((D : Int) / 2 ^ i) 1 = if D.testBit i then 1 else 0 := by
  have h1 : ((D : Int) / 2 ^ i) = ((D / 2 ^ i : Nat) : Int) := by simp
  have hlt : D / 2 ^ i < 1024 := Nat.lt_of_le_of_lt (Nat.div_le_self _ _) hD
  have h2 : (BitVec.ofInt 64 ((D / 2 ^ i : Nat) : Int)).toNat = D / 2 ^ i := by
    generalize D / 2 ^ i = q at *
    rw [BitVec.toNat_ofInt]; omega
  have h3 : (BitVec.ofInt 64 (1 : Int)).toNat = 1 := by decide
  have h4 := (bit_facts D hD i hi).2.2
  rw [h1]
  show IntKind.wrap .i64 ((BitVec.ofInt 64 ((D / 2 ^ i : Nat) : Int) &&& BitVec.ofInt 64 (1 : Int)).toNat : Int) = _
  rw [BitVec.toNat_and, h2, h3, Nat.and_one_is_mod, h4]
  cases D.testBit i <;> rfl

/-- The row of the program's table. -/
def pRow (l : List G) (d i : Nat) : List Int := rowF (2 ^ l.length) fun X => (pX l d i X : Int)
theorem subP_iff {l : List G} {i D : Nat} (hi : i < l.length) : subP l i D ↔ ∀ k, (bfX l i i).testBit k = true → D.testBit k = true := by
  constructor
  · intro h k hk
    rw [bfX_tb] at hk
    exact h k (by have := tb_lt hk; omega) hk
  · intro h j hj ht
    exact h j (by rw [bfX_tb]; exact ht)

set_option maxRecDepth 100000 in
set_option maxHeartbeats 2000000 in
theorem countOf_c (A : Option Addr) (l : List G) (c : Nat) (w : World) (hlen : l.length ≤ 10) (hr : Rd w A (cellsG l)) :
    Calls Try.prog 66 #[.slice A l.length c] w fun e w' => e = .returned (.int .i64 (cntL l)) ∧ Below w.heap.size w w' := by
  obtain ⟨N, hN⟩ : ∃ N, N = 2 ^ l.length := ⟨_, rfl⟩
  obtain ⟨M, hM⟩ : ∃ M, N = M + 1 := ⟨N - 1, by have : 0 < 2 ^ l.length := Nat.two_pow_pos _; omega⟩
  have hN10 : N ≤ 1024 := by rw [hN]; exact pow_ten hlen
  have HN := Lib.hid hN
  have HM := Lib.hid hM
  have HB := Lib.hid (befores_c A l c w hlen hr)
  have hsh : IntKind.i64.wrap ((2 : Int) ^ l.length) = (N : Int) := by
    have : ((2 ^ l.length : Nat) : Int) = (2 : Int) ^ l.length := by simp
    rw [← this, ← hN]; simp [IntKind.wrap, IntKind.bits, IntKind.signed]; omega
  have hl64 : (l.length : Int) ≤ 64 := by omega
  have hmk := fun w1 => make_ints2 N hN10 w1
  clear hN hM
  go_enter Try.func66, Try.ntmps66
  go_wp2_with (fail)
  refine HB.out.mono ?_
  rintro e w1 ⟨rfl, hrb, hb1⟩
  obtain ⟨cs, hmk1, hcs⟩ := hmk w1
  have hT0 : Row (w1.alloc (.cells cs 3)) w1.heap.size (List.replicate N 0) := by rw [hcs]; exact Bx.new w1 _ _
  have hbl : Below w1.heap.size w1 (w1.alloc (.cells cs 3)) := bl_alloc (Below.refl _ _) _
  have q1 := hT0.get (k := 0) (by have := HM.out; simp; omega)
  have q3 := Bx.free hT0 0
  have hset := hT0.set 0 1
  have hbs := bl_set hbl (Nat.le_refl w1.heap.size) (i := 0) (.int .i64 1)
  have hN0 : (0 : Int) < (N : Int) := by have := HM.out; omega
  have hN64 : (N : Int) ≤ 1024 := by omega
  clear hmk hcs HB
  go_wp2_with (fail)
  have hset' : Row ((w1.alloc (.cells cs 3)).setCell ⟨w1.heap.size, 0, none⟩ (.int .i64 1)) w1.heap.size (pRow l 0 0) := by
    have e : (List.replicate N (0 : Int)).set 0 1 = pRow l 0 0 := by
      rw [rowF_zero, HN.out, pRow]
      refine rowF_set (by simp [pX_start]) fun a _ h => by simp [pX_start, h]
    rw [← e]; exact hset
  rw [World.setCell_alloc_new] at hset' hbs
  go_loopg [17] N (fun gk iv wr => ∃ d : Nat, Hid (d + gk = N) ∧ iv = .int .i64 (d : Int) ∧ Row wr w1.heap.size (pRow l d 0) ∧ Below w1.heap.size w1 wr)
  case atStart => exact ⟨0, by simp [Hid], rfl, hset', hbs⟩
  case round =>
    obtain ⟨d, HD, rfl, hrow, hb⟩ := hrel
    clear hset hset' hbs q1 q3 hT0 hbl hmk1
    rcases gk with _ | gd
    · obtain rfl : d = N := by have := HD.out; omega
      have hM := HM.out
      have q1 := hrow.get (k := M) (by rw [pRow, rowF_len, ← HN.out]; omega)
      have hM2 : M < 2 ^ l.length := by rw [← HN.out]; omega
      have e : (pRow l d 0).getD M 0 = (cntL l : Int) := by
        rw [pRow, rowF_get hM2, pX_done hlen hM2 (by omega), cntL, ← HN.out, hM]; rfl
      rw [e] at q1
      subst hM
      go_wp2_with (fail)
      go_ret
      exact ⟨rfl, bl_call hb1 hb⟩
    · have hdN : d < N := by have h := HD.out; omega
      have hdN' : (d : Int) < (N : Int) := by omega
      have hd2 : d < 2 ^ l.length := by rw [← HN.out]; exact hdN
      have hd10 : d < 1024 := by omega
      obtain ⟨wo, rfl⟩ : ∃ wo : World, wo = wr := ⟨_, rfl⟩
      go_wp2_with (fail)
      go_loopg [22] l.length (fun gk jv wi => ∃ i : Nat, Hid (i + gk = l.length) ∧ jv = .int .i64 (i : Int) ∧ Row wi w1.heap.size (pRow l d i) ∧ Below w1.heap.size w1 wi)
      case atStart => exact ⟨0, by simp [Hid], rfl, hrow, hb⟩
      case round =>
        obtain ⟨i, HI, rfl, hrow2, hb2⟩ := hrel
        rcases gk with _ | gi
        · obtain rfl : i = l.length := by have := HI.out; omega
          have e : pRow l d l.length = pRow l (d + 1) 0 := rowF_congr fun X _ => by rw [pX_turn]
          rw [e] at hrow2
          go_wp2_with (fail)
          go_roundg gd
          case rel => exact ⟨d + 1, by have h := HD.out; show _ = _; omega, by go_num, hrow2, hb2⟩
          case measure => omega
        · have hil : i < l.length := by have h := HI.out; omega
          have hil' : (i : Int) < (l.length : Int) := by omega
          have hi10 : i < 10 := by omega
          have hi64 : (i : Int) ≤ 64 := by omega
          have hbit := bit_i64 hd10 hi10
          obtain ⟨r, hr63, hand, hr0⟩ := andNot_i64 (bfX l i i) d (by have := bfX_lt l i i; have : 2 ^ i ≤ 2 ^ 10 := Nat.pow_le_pow_right (by omega) (by omega); omega) (by omega)
          rw [← subP_iff hil] at hr0
          have hrb2 : Row wr w.heap.size (bfL l) := Bx.call hrb hb2
          have qb := hrb2.get (k := i) (by rw [bfL, rowF_len]; exact hil)
          rw [bfL, rowF_get hil] at qb
          have HR0 := Lib.hid hr0
          by_cases hgo : d.testBit i = false ∧ r = 0
          · obtain ⟨hb0, rfl⟩ := hgo
            have hsub : subP l i d := HR0.out.1 rfl
            rw [hb0] at hbit
            simp only [Bool.false_eq_true, if_false] at hbit
            obtain ⟨hor, hbX⟩ := (bit_facts d hd10 i hi10).2.1 hb0
            have hX2 : d + 2 ^ i < 2 ^ l.length := by
              rw [← hor]; exact Nat.or_lt_two_pow hd2 (Nat.pow_lt_pow_right (by omega) hil)
            have hN1 := pX_next hlen hd2 hil hb0 hsub
            have q1 := hrow2.get (k := d + 2 ^ i) (by rw [pRow, rowF_len]; exact hX2)
            rw [pRow, rowF_get hX2] at q1
            have q2 := hrow2.get (k := d) (by rw [pRow, rowF_len]; exact hd2)
            rw [pRow, rowF_get hd2, pX_done hlen hd2 (Nat.le_refl _)] at q2
            have q3 := Bx.free hrow2 (d + 2 ^ i)
            have hset := hrow2.set (d + 2 ^ i) (pX l d (i + 1) (d + 2 ^ i) : Int)
            have e : (pRow l d i).set (d + 2 ^ i) (pX l d (i + 1) (d + 2 ^ i) : Int) = pRow l d (i + 1) :=
              rowF_set rfl fun a _ ha => by
                rw [pX_same]
                rintro ⟨h1, h2, _⟩
                have := ((bit_facts d hd10 i hi10).2.1 hb0)
                exact ha (by have h3 : 2 ^ i ≤ a := Nat.ge_two_pow_of_testBit h1; omega)
            rw [e] at hset
            have hbs := bl_set hb2 (Nat.le_refl w1.heap.size) (i := d + 2 ^ i) (.int .i64 (pX l d (i + 1) (d + 2 ^ i) : Int))
            have hle1 := pX_le (d := d) (i := i + 1) hlen hX2
            have hle2 := oX_le (d + 2 ^ i) hlen
            have hpi : 2 ^ i ≤ 2 ^ 10 := Nat.pow_le_pow_right (by omega) (by omega)
            have horn := or_i64 d (2 ^ i) (by omega) (by omega)
            rw [hor] at horn
            have hshi : IntKind.i64.wrap ((2 : Int) ^ i) = ((2 ^ i : Nat) : Int) := by
              have : ((2 ^ i : Nat) : Int) = (2 : Int) ^ i := by simp
              rw [← this]; simp [IntKind.wrap, IntKind.bits, IntKind.signed]; omega
            have hXN : ((d + 2 ^ i : Nat) : Int) < (N : Int) := by rw [HN.out]; omega
            have hle3 : pX l d i (d + 2 ^ i) + oX l d ≤ 10000000000 := by omega
            rw [hN1] at hset hbs
            clear hN1 e hle1 hle2 hX2 hor hbX hr0 hsub
            generalize pX l d i (d + 2 ^ i) = pv at *
            generalize oX l d = ov at *
            generalize bfX l i i = bv at *
            generalize hX : d + 2 ^ i = X at *
            clear hX
            generalize 2 ^ i = s at *
            rw [Int.natCast_add] at hset hbs
            go_wp2_with (fail)
            go_region
            go_wp2_with (fail)
            go_roundg gi
            case rel => exact ⟨i + 1, by have h := HI.out; show _ = _; omega, by go_num, Bx.drew hset, hbs.drew⟩
            case measure => omega
          · have hE : pRow l d i = pRow l d (i + 1) := rowF_congr fun X _ => by
              rw [pX_same]
              rintro ⟨h1, h2, h3⟩
              refine hgo ⟨?_, HR0.out.2 h3⟩
              by_cases hX : X < 1024
              · have := ((bit_facts X hX i hi10).1 h1).2.1
                rw [h2] at this; exact this
              · have h4 : 2 ^ i ≤ 2 ^ 10 := Nat.pow_le_pow_right (by omega) (by omega)
                rename_i hXN
                rw [← HN.out] at hXN; omega
            rw [hE] at hrow2
            cases hb0 : d.testBit i with
            | true =>
              rw [hb0, if_pos rfl] at hbit
              clear hgo hr0
              generalize bfX l i i = bv at *
              go_wp2_with (fail)
              go_roundg gi
              case rel => exact ⟨i + 1, by have h := HI.out; show _ = _; omega, by go_num, hrow2, hb2⟩
              case measure => omega
            | false =>
              have hrn : ((r : Int) == 0) = false := by
                rw [beq_eq_false_iff_ne]
                intro h; exact hgo ⟨hb0, by omega⟩
              have hrn' : ¬ r = 0 := fun h => hgo ⟨hb0, h⟩
              rw [hb0] at hbit
              simp only [Bool.false_eq_true, if_false] at hbit
              clear hgo hr0
              generalize bfX l i i = bv at *
              go_wp2_with (fail)
              go_roundg gi
              case rel => exact ⟨i + 1, by have h := HI.out; show _ = _; omega, by go_num, hrow2, hb2⟩
              case measure => omega

set_option maxRecDepth 100000 in
set_option maxHeartbeats 2000000 in
theorem Count_c (n : Int) (A : Option Addr) (l : List G) (c : Nat) (w : World) (hlen : l.length ≤ 1000) (hr : Rd w A (cellsG l)) :
    Calls Try.prog 29 #[.int .i64 n, .slice A l.length c] w fun e w' => e = .returned (.tuple #[.int .i64 (if validE n l = 0 then (cntL l : Int) else 0), .int .i64 (validE n l)]) ∧ Below w.heap.size w w' := by
  have HV := Lib.hid (validate_c n A l c w hlen hr)
  have HC := fun w1 h hr1 => Lib.hid (countOf_c A l c w1 h hr1)
  by_cases hv : validE n l = 0
  · have hl10 : l.length ≤ 10 := (gatesE_ang hv).1
    rw [hv] at HV ⊢
    rw [if_pos rfl]
    generalize cntL l = k at *
    go_enter Try.func29, Try.ntmps29
    go_wp2_with (fail)
    refine HV.out.mono ?_
    rintro e w1 ⟨rfl, hb1⟩
    go_wp2_with (fail)
    refine (HC _ hl10 (hr.later hb1)).out.mono ?_
    rintro e w2 ⟨rfl, hb2⟩
    go_wp2_with (fail)
    go_ret2
    exact ⟨rfl, bl_call hb1 hb2⟩
  · rw [if_neg hv]
    generalize validE n l = ev at *
    go_enter Try.func29, Try.ntmps29
    go_wp2_with (fail)
    refine HV.out.mono ?_
    rintro e w1 ⟨rfl, hb1⟩
    go_wp2_with (fail)
    go_ret2
    exact ⟨rfl, hb1⟩
end Go.Proofs.Yteoajadcdjaalaa

/- One order alone: each gate is tied to the next one. The orders counted by the first gates. -/
namespace Go.Proofs.Yteoajadcdjaalaa
open Go.RowKit

theorem full_bit {m k : Nat} (h : k < m) : (2 ^ m - 1).testBit k = true := by rw [Nat.testBit_two_pow_sub_one]; simp [h]
theorem card_full (m : Nat) : card m (fun _ => true) = m := by
  have : ∀ n, sumN (fun _ => 1) n = n := fun n => by
    induction n with
    | zero => rfl
    | succ n ih => rw [sumN, ih]
  simpa [card] using this m
theorem cntL_Fc (l : List G) : cntL l = Fc (tb l) l.length l.length (fun _ => true) := by
  have h : ∀ k, k < l.length → (2 ^ l.length - 1).testBit k = (fun _ => true) k := fun k hk => full_bit hk
  have hd : DownP (tb l) l.length (fun _ => true) := fun _ _ _ _ _ _ => rfl
  rw [cntL, oX, oS_congr h, oS, if_pos hd, card_full, Fc_Ec (tb_irr l) _ _ (card_full _)]

def fromB (k : Nat) : Nat → Bool := fun i => decide (k ≤ i)
theorem fromB_rem (k : Nat) : remB (fromB k) k = fromB (k + 1) := by
  funext x
  rw [Bool.eq_iff_iff, remB_iff]
  simp only [fromB, decide_eq_true_eq]; omega
theorem fromB_zero : fromB 0 = fun _ => true := by funext x; simp [fromB]
theorem card_from {m : Nat} : ∀ n k, k + n = m → card m (fromB k) = n
  | 0, k, h => sumN_zero m fun i hi => by
      have : fromB k i = false := by simp [fromB]; omega
      rw [this]; rfl
  | n + 1, k, h => by
    have h1 := card_from n (k + 1) (by omega : k + 1 + n = m)
    rw [← fromB_rem] at h1
    have h2 := card_rem (S := fromB k) (i := k) (by simp [fromB]) m (by omega)
    omega
theorem first_from {l : List G} {k m : Nat} : firstB (tb l) m (fromB k) k = true := firstB_iff.2 ⟨by simp [fromB], fun j _ hs => by
  cases h : tb l j k
  · rfl
  · have := tb_lt h; simp [fromB] at hs; omega⟩

/-- Each of the first k gates is tied to the next one. -/
def adjTo (l : List G) : Nat → Bool
  | 0 => true
  | k + 1 => adjTo l k && tiedG (l.getD k g0) (l.getD (k + 1) g0)
theorem adjTo_iff (l : List G) : ∀ k, adjTo l k = true ↔ ∀ a, a < k → tiedG (l.getD a g0) (l.getD (a + 1) g0) = true
  | 0 => by simp [adjTo]
  | k + 1 => by
    rw [adjTo, Bool.and_eq_true, adjTo_iff l k]
    constructor
    · rintro ⟨h1, h2⟩ a ha
      by_cases h : a = k
      · subst h; exact h2
      · exact h1 a (by omega)
    · intro h; exact ⟨fun a ha => h a (by omega), h k (by omega)⟩

theorem Fc_one {l : List G} (h : ∀ a, a + 1 < l.length → tiedG (l.getD a g0) (l.getD (a + 1) g0) = true) : ∀ n k, k + n = l.length → Fc (tb l) l.length n (fromB k) = 1
  | 0, _, _ => rfl
  | n + 1, k, hk => by
    rw [Fc, sumN_one (j := k) l.length (by omega), if_pos first_from, fromB_rem]
    · exact Fc_one h n (k + 1) (by omega)
    · intro i hi hik
      rw [if_neg]
      intro hf
      obtain ⟨h1, h2⟩ := firstB_iff.1 hf
      simp only [fromB, decide_eq_true_eq] at h1
      have h3 := h2 (i - 1) (by omega) (by simp [fromB]; omega)
      have h4 := h (i - 1) (by omega)
      rw [show i - 1 + 1 = i by omega] at h4
      rw [tb, h4] at h3
      simp at h3; omega
theorem Fc_two {l : List G} {a : Nat} (ha : a + 1 < l.length) (h : tiedG (l.getD a g0) (l.getD (a + 1) g0) = false) : ∀ n k, k + n = l.length → k ≤ a → 2 ≤ Fc (tb l) l.length n (fromB k)
  | 0, k, h1, h2 => by omega
  | n + 1, k, hk, hka => by
    have hP : ∀ j i, tb l j i = true → j < i := fun j i h => tb_lt h
    rw [Fc]
    by_cases he : k = a
    · subst he
      have hf2 : firstB (tb l) l.length (fromB k) (k + 1) = true := firstB_iff.2 ⟨by simp [fromB], fun j _ hs => by
        cases hp : tb l j (k + 1)
        · rfl
        · have hlt := tb_lt hp
          simp only [fromB, decide_eq_true_eq] at hs
          obtain rfl : j = k := by omega
          rw [tb, h] at hp; simp at hp⟩
      have hg := sumN_ge2 (f := fun i => if firstB (tb l) l.length (fromB k) i = true then Fc (tb l) l.length n (remB (fromB k) i) else 0) (i := k) (j := k + 1) (by omega) l.length ha
      simp only [first_from, hf2, if_true] at hg
      have hc := card_from (n + 1) k hk
      have c1 := card_rem (S := fromB k) (i := k) (by simp [fromB]) l.length (by omega)
      have c2 := card_rem (S := fromB k) (i := k + 1) (by simp [fromB]) l.length (by omega)
      have p1 := Fc_pos (m := l.length) hP n (remB (fromB k) k) (by omega)
      have p2 := Fc_pos (m := l.length) hP n (remB (fromB k) (k + 1)) (by omega)
      omega
    · have hg := sumN_ge (f := fun i => if firstB (tb l) l.length (fromB k) i = true then Fc (tb l) l.length n (remB (fromB k) i) else 0) (j := k) l.length (by omega)
      simp only [first_from, if_true, fromB_rem] at hg
      have := Fc_two ha h n (k + 1) (by omega) (by omega)
      omega
theorem cnt_one (l : List G) : decide (cntL l = 1) = adjTo l (l.length - 1) := by
  rw [cntL_Fc, ← fromB_zero]
  cases h : adjTo l (l.length - 1)
  · have : ∃ a, a + 1 < l.length ∧ tiedG (l.getD a g0) (l.getD (a + 1) g0) = false := by
      by_cases he : ∃ a, a + 1 < l.length ∧ tiedG (l.getD a g0) (l.getD (a + 1) g0) = false
      · exact he
      · have : adjTo l (l.length - 1) = true := (adjTo_iff l _).2 fun a ha => by
          cases ht : tiedG (l.getD a g0) (l.getD (a + 1) g0)
          · exact (he ⟨a, by omega, ht⟩).elim
          · rfl
        rw [this] at h; cases h
    obtain ⟨a, ha, ht⟩ := this
    have := Fc_two ha ht l.length 0 (by omega) (by omega)
    rw [decide_eq_false_iff_not]; omega
  · have := Fc_one (fun a ha => (adjTo_iff l _).1 h a (by omega)) l.length 0 (by omega)
    rw [this]; rfl
end Go.Proofs.Yteoajadcdjaalaa

