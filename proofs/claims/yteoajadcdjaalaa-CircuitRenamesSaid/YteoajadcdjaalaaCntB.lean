/- The tables of the orders: the sets of gates are the bits of a number below 1024. -/
import Derived.Test.YteoajadcdjaalaaCnt
import Derived.Test.YteoajadcdjaalaaLev
namespace Go.Proofs.Yteoajadcdjaalaa
open Go.RowKit

theorem bit_facts : ∀ X, X < 1024 → ∀ i, i < 10 → (X.testBit i = true → (X - 2 ^ i) ||| 2 ^ i = X ∧ (X - 2 ^ i).testBit i = false ∧ 2 ^ i ≤ X) ∧ (X.testBit i = false → X ||| 2 ^ i = X + 2 ^ i ∧ (X + 2 ^ i).testBit i = true) ∧ (X / 2 ^ i % 2 = if X.testBit i then 1 else 0) := by decide +kernel
theorem bit_rem {X i : Nat} (hX : X < 1024) (hi : i < 10) (h : X.testBit i = true) (k : Nat) : (X - 2 ^ i).testBit k = remB X.testBit i k := by
  obtain ⟨h1, h2, _⟩ := (bit_facts X hX i hi).1 h
  by_cases hk : k = i
  · subst hk; rw [h2]; simp [remB]
  · have : X.testBit k = (X - 2 ^ i).testBit k := by
      have e : X.testBit k = ((X - 2 ^ i) ||| 2 ^ i).testBit k := by rw [h1]
      rw [e, Nat.testBit_or, Nat.testBit_two_pow]; simp [show ¬ i = k from fun h => hk h.symm]
    simp [remB, hk, this]
theorem pow_ten {m : Nat} (hm : m ≤ 10) : 2 ^ m ≤ 1024 := Nat.pow_le_pow_right (by omega) hm
theorem bit_lt {X m i : Nat} (hX : X < 2 ^ m) (h : X.testBit i = true) : i < m := by
  rcases Nat.lt_or_ge i m with h1 | h1
  · exact h1
  · have := Nat.testBit_lt_two_pow (Nat.lt_of_lt_of_le hX (Nat.pow_le_pow_right (by omega) h1)); rw [h] at this; cases this

/-- The gate j comes before the gate i in all circuits that are alike. -/
def tb (l : List G) (j i : Nat) : Bool := decide (j < i) && tiedG (l.getD j g0) (l.getD i g0)
theorem tb_irr (l : List G) (i : Nat) : tb l i i = false := by simp [tb]
theorem tb_lt {l : List G} {j i : Nat} (h : tb l j i = true) : j < i := by simp [tb] at h; exact h.1
/-- In how many orders the gates of the set X may come first. -/
def oX (l : List G) (X : Nat) : Nat := oS (tb l) l.length X.testBit
/-- In how many orders all gates may come. -/
def cntL (l : List G) : Nat := oX l (2 ^ l.length - 1)
theorem oX_zero (l : List G) : oX l 0 = 1 := by
  have hc : card l.length (Nat.testBit 0) = 0 := sumN_zero _ fun k _ => by simp
  rw [oX, oS, if_pos, hc, Ec]
  intro i _ hs; simp at hs
theorem oX_rem {l : List G} {X i : Nat} (hm : l.length ≤ 10) (hX : X < 2 ^ l.length) (hi : i < l.length) (h : X.testBit i = true) : oX l (X - 2 ^ i) = oS (tb l) l.length (remB X.testBit i) :=
  oS_congr fun k _ => bit_rem (Nat.lt_of_lt_of_le hX (pow_ten hm)) (by omega) h k
theorem oX_le {l : List G} (X : Nat) (hm : l.length ≤ 10) : oX l X ≤ 10000000000 := by
  have h1 := oS_le (tb l) l.length X.testBit
  have h2 : card l.length X.testBit ≤ l.length := by
    have := sumN_le (f := fun i => if X.testBit i = true then 1 else 0) (b := 1) l.length fun k _ => by by_cases h : X.testBit k = true <;> simp [h]
    rw [card]; omega
  have h3 : l.length ^ card l.length X.testBit ≤ 10 ^ card l.length X.testBit := Nat.pow_le_pow_left hm _
  have h4 : 10 ^ card l.length X.testBit ≤ 10 ^ 10 := Nat.pow_le_pow_right (by omega) (by omega)
  have h5 : (10 : Nat) ^ 10 = 10000000000 := by decide
  rw [oX]; omega

/-- The gates before i to which it is tied are all in the set D. -/
def subP (l : List G) (i D : Nat) : Prop := ∀ j, j < l.length → tb l j i = true → D.testBit j = true
instance (l : List G) (i D : Nat) : Decidable (subP l i D) := inferInstanceAs (Decidable (∀ j, j < l.length → _))
theorem nonzero_bit {X m : Nat} (hX : X < 2 ^ m) (h0 : X ≠ 0) : ∃ k, k < m ∧ X.testBit k = true := by
  obtain ⟨k, hk⟩ := Nat.exists_testBit_of_ne_zero h0
  exact ⟨k, bit_lt hX hk, hk⟩
theorem oX_step {l : List G} {X : Nat} (hm : l.length ≤ 10) (hX : X < 2 ^ l.length) (h0 : X ≠ 0) : oX l X = sumN (fun i => if X.testBit i = true ∧ subP l i (X - 2 ^ i) then oX l (X - 2 ^ i) else 0) l.length := by
  have hX' := Nat.lt_of_lt_of_le hX (pow_ten hm)
  rw [oX, oS_step (tb_irr l) (fun i => subP l i (X - 2 ^ i)) ?_ ?_ (nonzero_bit hX h0)]
  · refine sumN_congr _ fun i hi => ?_
    by_cases h : X.testBit i = true ∧ subP l i (X - 2 ^ i)
    · rw [if_pos h, if_pos h, oX_rem hm hX hi h.1]
    · rw [if_neg h, if_neg h]
  · intro i hi hs hc j hj hp
    rw [← bit_rem hX' (by omega) hs j]; exact hc j hj hp
  · intro i hi hl hd j hj hp
    have hs := (lastB_iff.1 hl).1
    rw [bit_rem hX' (by omega) hs j, remB_iff]
    exact ⟨hd j hj hp, by have := tb_lt hp; omega⟩

/-- The table while the set d and its gate i are under way. -/
def pX (l : List G) (d i X : Nat) : Nat := (if X = 0 then 1 else 0) + sumN (fun a => if (X.testBit a = true ∧ subP l a (X - 2 ^ a)) ∧ (X - 2 ^ a < d ∨ X - 2 ^ a = d ∧ a < i) then oX l (X - 2 ^ a) else 0) l.length
theorem pX_start (l : List G) (X : Nat) : pX l 0 0 X = if X = 0 then 1 else 0 := by
  rw [pX, sumN_zero, Nat.add_zero]
  intro k _
  rw [if_neg]
  rintro ⟨_, h | ⟨_, h⟩⟩ <;> omega
theorem pX_turn (l : List G) (d X : Nat) : pX l d l.length X = pX l (d + 1) 0 X := by
  rw [pX, pX]
  congr 1
  refine sumN_congr _ fun a ha => ?_
  by_cases h : (X.testBit a = true ∧ subP l a (X - 2 ^ a)) ∧ (X - 2 ^ a < d ∨ X - 2 ^ a = d ∧ a < l.length)
  · rw [if_pos h, if_pos ⟨h.1, by have := h.2; omega⟩]
  · rw [if_neg h, if_neg]
    rintro ⟨h1, h2⟩
    exact h ⟨h1, by omega⟩
theorem pX_done {l : List G} {d i X : Nat} (hm : l.length ≤ 10) (hX : X < 2 ^ l.length) (h : X ≤ d) : pX l d i X = oX l X := by
  by_cases h0 : X = 0
  · subst h0
    rw [pX, oX_zero, sumN_zero]; · rfl
    intro k _; rw [if_neg]; simp
  · rw [oX_step hm hX h0, pX, if_neg h0, Nat.zero_add]
    refine sumN_congr _ fun a ha => ?_
    by_cases hc : X.testBit a = true ∧ subP l a (X - 2 ^ a)
    · have hp : 0 < 2 ^ a := Nat.two_pow_pos a
      rw [if_pos hc, if_pos ⟨hc, .inl (by omega)⟩]
    · rw [if_neg hc, if_neg fun h => hc h.1]
theorem pX_le {l : List G} {d i X : Nat} (hm : l.length ≤ 10) (hX : X < 2 ^ l.length) : pX l d i X ≤ oX l X := by
  rw [← pX_done (d := X) (i := 0) hm hX (Nat.le_refl _), pX, pX]
  refine Nat.add_le_add_left (sumN_mono _ fun a _ => ?_) _
  by_cases hc : X.testBit a = true ∧ subP l a (X - 2 ^ a)
  · have hp : 0 < 2 ^ a := Nat.two_pow_pos a
    by_cases h0 : X = 0
    · subst h0; simp at hc
    · rw [if_pos (c := _ ∧ (X - 2 ^ a < X ∨ _)) ⟨hc, .inl (by omega)⟩]
      split
      · exact Nat.le_refl _
      · exact Nat.zero_le _
  · rw [if_neg fun h => hc h.1]; exact Nat.zero_le _
theorem sumN_upd {f g : Nat → Nat} {i : Nat} : ∀ m, i < m → (∀ k, k < m → k ≠ i → g k = f k) → f i = 0 → sumN g m = sumN f m + g i
  | 0, h, _, _ => by omega
  | m + 1, h, he, h0 => by
    rw [sumN, sumN]
    by_cases hi : i < m
    · rw [sumN_upd m hi (fun k hk => he k (by omega)) h0, he m (by omega) (by omega)]; omega
    · obtain rfl : i = m := by omega
      rw [sumN_congr i fun k hk => he k (by omega) (by omega), h0, Nat.add_zero]
/-- The step: the set d and the gate i, which is not in it. -/
theorem pX_next {l : List G} {d i : Nat} (hm : l.length ≤ 10) (hd : d < 2 ^ l.length) (hi : i < l.length) (hb : d.testBit i = false) (hs : subP l i d) : pX l d (i + 1) (d + 2 ^ i) = pX l d i (d + 2 ^ i) + oX l d := by
  have hd' := Nat.lt_of_lt_of_le hd (pow_ten hm)
  have hb1 := ((bit_facts d hd' i (by omega)).2.1 hb).2
  have he : d + 2 ^ i - 2 ^ i = d := by omega
  have key := sumN_upd (i := i)
    (f := fun a => if ((d + 2 ^ i).testBit a = true ∧ subP l a (d + 2 ^ i - 2 ^ a)) ∧ (d + 2 ^ i - 2 ^ a < d ∨ d + 2 ^ i - 2 ^ a = d ∧ a < i) then oX l (d + 2 ^ i - 2 ^ a) else 0)
    (g := fun a => if ((d + 2 ^ i).testBit a = true ∧ subP l a (d + 2 ^ i - 2 ^ a)) ∧ (d + 2 ^ i - 2 ^ a < d ∨ d + 2 ^ i - 2 ^ a = d ∧ a < i + 1) then oX l (d + 2 ^ i - 2 ^ a) else 0) l.length hi ?_ ?_
  · rw [pX, pX, key]
    simp only [he, hb1, hs]
    simp
  · intro k hk hki
    have e : (k < i + 1) = (k < i) := by apply propext; omega
    simp only [e]
  · simp only [he]
    rw [if_neg]
    rintro ⟨_, h | ⟨_, h⟩⟩ <;> omega
theorem pX_same {l : List G} {d i X : Nat} (h : ¬ (X.testBit i = true ∧ X - 2 ^ i = d ∧ subP l i d)) : pX l d (i + 1) X = pX l d i X := by
  rw [pX, pX]
  congr 1
  refine sumN_congr _ fun a ha => ?_
  by_cases hai : a = i
  · subst hai
    by_cases hc : X.testBit a = true ∧ subP l a (X - 2 ^ a)
    · have e : ¬ (X - 2 ^ a = d) := fun he => h ⟨hc.1, he, by rw [← he]; exact hc.2⟩
      simp [e]
    · rw [if_neg fun h => hc h.1, if_neg fun h => hc h.1]
  · have e : (a < i + 1) = (a < i) := by apply propext; omega
    simp only [e]

/-- A row given by a function. -/
def rowF (n : Nat) (f : Nat → Int) : List Int := (List.range n).map f
theorem rowF_len (n : Nat) (f : Nat → Int) : (rowF n f).length = n := by simp [rowF]
theorem rowF_get {n : Nat} {f : Nat → Int} {k : Nat} (h : k < n) : (rowF n f).getD k 0 = f k := by simp [rowF, List.getD_eq_getElem?_getD, h]
theorem rowF_set {n : Nat} {f g : Nat → Int} {k : Nat} {v : Int} (hv : g k = v) (h : ∀ a, a < n → a ≠ k → g a = f a) : (rowF n f).set k v = rowF n g := by
  apply List.ext_getElem
  · simp [rowF]
  · intro i h1 h2
    simp [rowF] at h1
    rw [List.getElem_set]
    split
    · rename_i e; subst e; simp [rowF, hv]
    · rename_i e; simp [rowF, h i h1 (fun h => e h.symm)]
theorem rowF_congr {n : Nat} {f g : Nat → Int} (h : ∀ a, a < n → f a = g a) : rowF n f = rowF n g := by
  apply List.map_congr_left; intro a ha; exact h a (List.mem_range.1 ha)
theorem rowF_zero (n : Nat) : List.replicate n (0 : Int) = rowF n fun _ => 0 := by
  apply List.ext_getElem <;> simp [rowF]

/-- The gates before i to which it is tied, of the first j, as bits. -/
def bfX (l : List G) (i : Nat) : Nat → Nat
  | 0 => 0
  | j + 1 => if tiedG (l.getD j g0) (l.getD i g0) then bfX l i j ||| 2 ^ j else bfX l i j
theorem bfX_lt (l : List G) (i : Nat) : ∀ j, bfX l i j < 2 ^ j
  | 0 => by simp [bfX]
  | j + 1 => by
    have h := bfX_lt l i j
    have h2 : bfX l i j < 2 ^ (j + 1) := by rw [Nat.pow_succ]; omega
    rw [bfX]; split
    · exact Nat.or_lt_two_pow h2 (Nat.pow_lt_pow_right (by omega) (by omega))
    · exact h2
theorem bfX_bit (l : List G) (i k : Nat) : ∀ j, (bfX l i j).testBit k = (decide (k < j) && tiedG (l.getD k g0) (l.getD i g0))
  | 0 => by simp [bfX]
  | j + 1 => by
    have h := bfX_bit l i k j
    rw [bfX]
    by_cases ht : tiedG (l.getD j g0) (l.getD i g0) = true
    · rw [if_pos ht, Nat.testBit_or, Nat.testBit_two_pow, h]
      by_cases hk : j = k
      · subst hk; rw [ht]; simp
      · have : (k < j + 1) = (k < j) := by apply propext; omega
        simp [hk, this]
    · rw [if_neg ht, h]
      by_cases hk : j = k
      · subst hk; rw [Bool.not_eq_true] at ht; rw [ht]; simp
      · have : (k < j + 1) = (k < j) := by apply propext; omega
        simp [this]
theorem bfX_tb (l : List G) (i k : Nat) : (bfX l i i).testBit k = tb l k i := bfX_bit l i k i
end Go.Proofs.Yteoajadcdjaalaa
