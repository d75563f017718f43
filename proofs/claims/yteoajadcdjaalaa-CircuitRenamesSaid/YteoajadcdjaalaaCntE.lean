/- One order alone: each gate is tied to the next one. The orders counted by the first gates. -/
import Derived.Test.YteoajadcdjaalaaCntB
namespace Go.Proofs.Yteoajadcdjaalaa
open Go.RowKit

theorem full_bit {m k : Nat} (h : k < m) : (2 ^ m - 1).testBit k = true := by rw [Nat.testBit_two_pow_sub_one]; simp [h]
theorem card_full (m : Nat) : card m (fun _ => true) = m := by
  have : ∀ n, sumN (fun _ => 1) n = n := fun n => by
    induction n with
    | zero => rfl
    | succ n ih => rw [sumN, ih]
  simpa [card] using this m
theorem cntL_Fc (l : List G) : cntL l = Fc (tb l) l.length l.length (fun _ => true) := by
  have h : ∀ k, k < l.length → (2 ^ l.length - 1).testBit k = (fun _ => true) k := fun k hk => full_bit hk
  have hd : DownP (tb l) l.length (fun _ => true) := fun _ _ _ _ _ _ => rfl
  rw [cntL, oX, oS_congr h, oS, if_pos hd, card_full, Fc_Ec (tb_irr l) _ _ (card_full _)]

def fromB (k : Nat) : Nat → Bool := fun i => decide (k ≤ i)
theorem fromB_rem (k : Nat) : remB (fromB k) k = fromB (k + 1) := by
  funext x
  rw [Bool.eq_iff_iff, remB_iff]
  simp only [fromB, decide_eq_true_eq]; omega
theorem fromB_zero : fromB 0 = fun _ => true := by funext x; simp [fromB]
theorem card_from {m : Nat} : ∀ n k, k + n = m → card m (fromB k) = n
  | 0, k, h => sumN_zero m fun i hi => by
      have : fromB k i = false := by simp [fromB]; omega
      rw [this]; rfl
  | n + 1, k, h => by
    have h1 := card_from n (k + 1) (by omega : k + 1 + n = m)
    rw [← fromB_rem] at h1
    have h2 := card_rem (S := fromB k) (i := k) (by simp [fromB]) m (by omega)
    omega
theorem first_from {l : List G} {k m : Nat} : firstB (tb l) m (fromB k) k = true := firstB_iff.2 ⟨by simp [fromB], fun j _ hs => by
  cases h : tb l j k
  · rfl
  · have := tb_lt h; simp [fromB] at hs; omega⟩

/-- Each of the first k gates is tied to the next one. -/
def adjTo (l : List G) : Nat → Bool
  | 0 => true
  | k + 1 => adjTo l k && tiedG (l.getD k g0) (l.getD (k + 1) g0)
theorem adjTo_iff (l : List G) : ∀ k, adjTo l k = true ↔ ∀ a, a < k → tiedG (l.getD a g0) (l.getD (a + 1) g0) = true
  | 0 => by simp [adjTo]
  | k + 1 => by
    rw [adjTo, Bool.and_eq_true, adjTo_iff l k]
    constructor
    · rintro ⟨h1, h2⟩ a ha
      by_cases h : a = k
      · subst h; exact h2
      · exact h1 a (by omega)
    · intro h; exact ⟨fun a ha => h a (by omega), h k (by omega)⟩

theorem Fc_one {l : List G} (h : ∀ a, a + 1 < l.length → tiedG (l.getD a g0) (l.getD (a + 1) g0) = true) : ∀ n k, k + n = l.length → Fc (tb l) l.length n (fromB k) = 1
  | 0, _, _ => rfl
  | n + 1, k, hk => by
    rw [Fc, sumN_one (j := k) l.length (by omega), if_pos first_from, fromB_rem]
    · exact Fc_one h n (k + 1) (by omega)
    · intro i hi hik
      rw [if_neg]
      intro hf
      obtain ⟨h1, h2⟩ := firstB_iff.1 hf
      simp only [fromB, decide_eq_true_eq] at h1
      have h3 := h2 (i - 1) (by omega) (by simp [fromB]; omega)
      have h4 := h (i - 1) (by omega)
      rw [show i - 1 + 1 = i by omega] at h4
      rw [tb, h4] at h3
      simp at h3; omega
theorem Fc_two {l : List G} {a : Nat} (ha : a + 1 < l.length) (h : tiedG (l.getD a g0) (l.getD (a + 1) g0) = false) : ∀ n k, k + n = l.length → k ≤ a → 2 ≤ Fc (tb l) l.length n (fromB k)
  | 0, k, h1, h2 => by omega
  | n + 1, k, hk, hka => by
    have hP : ∀ j i, tb l j i = true → j < i := fun j i h => tb_lt h
    rw [Fc]
    by_cases he : k = a
    · subst he
      have hf2 : firstB (tb l) l.length (fromB k) (k + 1) = true := firstB_iff.2 ⟨by simp [fromB], fun j _ hs => by
        cases hp : tb l j (k + 1)
        · rfl
        · have hlt := tb_lt hp
          simp only [fromB, decide_eq_true_eq] at hs
          obtain rfl : j = k := by omega
          rw [tb, h] at hp; simp at hp⟩
      have hg := sumN_ge2 (f := fun i => if firstB (tb l) l.length (fromB k) i = true then Fc (tb l) l.length n (remB (fromB k) i) else 0) (i := k) (j := k + 1) (by omega) l.length ha
      simp only [first_from, hf2, if_true] at hg
      have hc := card_from (n + 1) k hk
      have c1 := card_rem (S := fromB k) (i := k) (by simp [fromB]) l.length (by omega)
      have c2 := card_rem (S := fromB k) (i := k + 1) (by simp [fromB]) l.length (by omega)
      have p1 := Fc_pos (m := l.length) hP n (remB (fromB k) k) (by omega)
      have p2 := Fc_pos (m := l.length) hP n (remB (fromB k) (k + 1)) (by omega)
      omega
    · have hg := sumN_ge (f := fun i => if firstB (tb l) l.length (fromB k) i = true then Fc (tb l) l.length n (remB (fromB k) i) else 0) (j := k) l.length (by omega)
      simp only [first_from, if_true, fromB_rem] at hg
      have := Fc_two ha h n (k + 1) (by omega) (by omega)
      omega
theorem cnt_one (l : List G) : decide (cntL l = 1) = adjTo l (l.length - 1) := by
  rw [cntL_Fc, ← fromB_zero]
  cases h : adjTo l (l.length - 1)
  · have : ∃ a, a + 1 < l.length ∧ tiedG (l.getD a g0) (l.getD (a + 1) g0) = false := by
      by_cases he : ∃ a, a + 1 < l.length ∧ tiedG (l.getD a g0) (l.getD (a + 1) g0) = false
      · exact he
      · have : adjTo l (l.length - 1) = true := (adjTo_iff l _).2 fun a ha => by
          cases ht : tiedG (l.getD a g0) (l.getD (a + 1) g0)
          · exact (he ⟨a, by omega, ht⟩).elim
          · rfl
        rw [this] at h; cases h
    obtain ⟨a, ha, ht⟩ := this
    have := Fc_two ha ht l.length 0 (by omega) (by omega)
    rw [decide_eq_false_iff_not]; omega
  · have := Fc_one (fun a ha => (adjTo_iff l _).1 h a (by omega)) l.length 0 (by omega)
    rw [this]; rfl
end Go.Proofs.Yteoajadcdjaalaa
