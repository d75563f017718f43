/- Jobs in time: work in any order is no less late. Lists and numbers alone. -/
import Derived.Test.YtiffgaelndajpaaClkT
namespace Go.Proofs.Ytiffgaelndajpaa

/-- The first one of a list of numbers that can be done, among the first i. -/
def ordTo (q : List Int) (n : Nat) (L : List T3) (t : Nat) : Nat → Int
  | 0 => -1
  | i + 1 => if ordTo q n L t i < 0 && (decide (0 ≤ q.getD i 0) && decide (q.getD i 0 < (n : Int)) && availB L t (q.getD i 0).toNat) then q.getD i 0 else ordTo q n L t i
/-- The list and the jobs' own order behind it. -/
def ordQ (first : List Int) (n : Nat) : List Int := first ++ (List.range n).map fun (k : Nat) => (k : Int)
def ordF (first : List Int) (n : Nat) (L : List T3) (t : Nat) : Int := ordTo (ordQ first n) n L t (first.length + n)
theorem ordTo_is (q : List Int) (n : Nat) (L : List T3) (t : Nat) : ∀ i, (ordTo q n L t i = -1 ∧ ∀ j, j < i → 0 ≤ q.getD j 0 → q.getD j 0 < (n : Int) → availB L t (q.getD j 0).toNat = false) ∨ ∃ k : Nat, ordTo q n L t i = (k : Int) ∧ k < n ∧ availB L t k = true
  | 0 => .inl ⟨rfl, fun j h => by omega⟩
  | i + 1 => by
    rw [ordTo]
    rcases ordTo_is q n L t i with ⟨h1, h2⟩ | ⟨k, h1, h2, h3⟩
    · rw [h1]
      by_cases hc : 0 ≤ q.getD i 0 ∧ q.getD i 0 < (n : Int) ∧ availB L t (q.getD i 0).toNat = true
      · rw [if_pos (by simp only [Bool.and_eq_true, decide_eq_true_eq]; exact ⟨by omega, ⟨hc.1, hc.2.1⟩, hc.2.2⟩)]
        exact .inr ⟨(q.getD i 0).toNat, by omega, by omega, hc.2.2⟩
      · rw [if_neg (by simp only [Bool.and_eq_true, decide_eq_true_eq]; exact fun h => hc ⟨h.2.1.1, h.2.1.2, h.2.2⟩)]
        refine .inl ⟨rfl, fun j hj h3 h4 => ?_⟩
        rcases Nat.lt_or_ge j i with x | x
        · exact h2 j x h3 h4
        · obtain rfl : j = i := by omega
          cases hv : availB L t (q.getD j 0).toNat with
          | false => rfl
          | true => exact absurd ⟨h3, h4, hv⟩ hc
    · rw [h1, if_neg (by simp only [Bool.and_eq_true, decide_eq_true_eq]; omega)]
      exact .inr ⟨k, rfl, h2, h3⟩
theorem picks_ord (first : List Int) (l : List T3) : Picks (ordF first l.length) l := fun L t hL => by
  rcases ordTo_is (ordQ first l.length) l.length L t (first.length + l.length) with ⟨h1, h2⟩ | ⟨k, h1, h2, h3⟩
  · refine .inl ⟨h1, fun j hj => ?_⟩
    have hjl : j < l.length := by omega
    have e : (ordQ first l.length).getD (first.length + j) 0 = (j : Int) := by
      rw [ordQ, List.getD_eq_getElem?_getD, List.getElem?_append_right (by omega)]
      simp [hjl]
    have := h2 (first.length + j) (by omega) (by rw [e]; omega) (by rw [e]; omega)
    rwa [e, Int.toNat_natCast] at this
  · exact .inr ⟨k, h1, by omega, h3⟩

/- The greatest lateness of those that are done. -/
section
variable (pk : List T3 → Nat → Int) (l : List T3)
/-- After c units: the greatest lateness, and whether one is done. -/
def mostTo : Nat → Int × Bool
  | 0 => (0, false)
  | c + 1 =>
    let k := pickG pk l c
    if 0 ≤ k ∧ ((leftG pk l (c + 1)).getD k.toNat t0).2.2 = 0 ∧ ((mostTo c).2 = false ∨ (mostTo c).1 < (c : Int) + 1 - (l.getD k.toNat t0).2.1) then ((c : Int) + 1 - (l.getD k.toNat t0).2.1, true) else mostTo c
end
theorem mostTo_is {pk : List T3 → Nat → Int} {l : List T3} (hp : Picks pk l) (hl : Ok l) : ∀ c k, k < l.length → ((leftG pk l c).getD k t0).2.2 = 0 → (mostTo pk l c).2 = true ∧ ∀ t, t < c → pickG pk l t = (k : Int) → (t : Int) + 1 - (l.getD k t0).2.1 ≤ (mostTo pk l c).1
  | 0, k, hk, h => by
    have := hl.need k hk
    rw [leftG] at h; omega
  | c + 1, k, hk, h => by
    have mono : (mostTo pk l c).2 = true → (mostTo pk l (c + 1)).2 = true ∧ (mostTo pk l c).1 ≤ (mostTo pk l (c + 1)).1 := fun hs => by
      rw [mostTo]
      split
      · rename_i hc
        rw [hs] at hc
        exact ⟨rfl, by simp at hc ⊢; omega⟩
      · exact ⟨hs, Int.le_refl _⟩
    by_cases e : pickG pk l c = (k : Int)
    · -- done in this unit
      have hh : (mostTo pk l (c + 1)).2 = true ∧ (c : Int) + 1 - (l.getD k t0).2.1 ≤ (mostTo pk l (c + 1)).1 := by
        rw [mostTo]
        simp only [e, Int.toNat_natCast]
        by_cases hs : (mostTo pk l c).2 = false ∨ (mostTo pk l c).1 < (c : Int) + 1 - (l.getD k t0).2.1
        · rw [if_pos ⟨by omega, h, hs⟩]; exact ⟨rfl, Int.le_refl _⟩
        · rw [if_neg fun x => hs x.2.2]
          have h1 : ¬ (mostTo pk l c).2 = false := fun x => hs (.inl x)
          have h2 : ¬ (mostTo pk l c).1 < (c : Int) + 1 - (l.getD k t0).2.1 := fun x => hs (.inr x)
          exact ⟨by simpa using h1, by omega⟩
      exact ⟨hh.1, fun t ht _ => by have := hh.2; omega⟩
    · have h' : ((leftG pk l c).getD k t0).2.2 = 0 := by
        rw [leftG, stepL_get _ _ _ (by rw [leftG_len]; exact hk)] at h
        have e' : ¬ pk (leftG pk l c) c = (k : Int) := e
        rw [if_neg e'] at h
        simpa using h
      obtain ⟨h1, h2⟩ := mostTo_is hp hl c k hk h'
      obtain ⟨h3, h4⟩ := mono h1
      refine ⟨h3, fun t ht hpt => ?_⟩
      rcases Nat.lt_or_ge t c with x | x
      · have := h2 t x hpt; omega
      · obtain rfl : t = c := by omega
        exact absurd hpt e
/-- No order is less late. -/
theorem order_late {pk : List T3 → Nat → Int} {l : List T3} (hp : Picks pk l) (hl : Ok l) (hn : 0 < l.length) : lateL l ≤ (mostTo pk l (lenG pk l)).1 := by
  rw [lateL_iff hl hn]
  intro a b hd
  refine late_ge (T := pickG pk l) (N := lenG pk l) (fun k hk => done_all hp hl hk) (fun t k _ hk h => pick_from hp t k hk h) (fun t k ht hk h => ?_) a b hd
  have h1 := (sumN_zero (leftG_nonneg hp hl.jobs (lenG pk l))).1 (lenG_spec hp hl).2.1 k (by rw [leftG_len]; exact hk)
  exact (mostTo_is hp hl _ k hk h1).2 t ht h
end Go.Proofs.Ytiffgaelndajpaa
