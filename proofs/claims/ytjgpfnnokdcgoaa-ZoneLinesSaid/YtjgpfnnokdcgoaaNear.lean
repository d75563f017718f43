/- The near zones in order are the specification's. -/
import Derived.Test.YtjgpfnnokdcgoaaNet
import Derived.Test.YtjgpfnnokdcgoaaVal
import Derived.Test.YtjgpfnnokdcgoaaSortI
namespace Go.Proofs.Ytjgpfnnokdcgoaa
open Go.RowKit

theorem asc_ext : ∀ {l m : List Int}, l.Pairwise (· < ·) → m.Pairwise (· < ·) → (∀ x, x ∈ l ↔ x ∈ m) → l = m
  | [], [], _, _, _ => rfl
  | [], b :: m, _, _, h => by have := (h b).2 (by simp); simp at this
  | a :: l, [], _, _, h => by have := (h a).1 (by simp); simp at this
  | a :: l, b :: m, hl, hm, h => by
    rw [List.pairwise_cons] at hl hm
    have e : a = b := by
      rcases List.mem_cons.1 ((h a).1 (by simp)) with h1 | h1
      · exact h1
      · rcases List.mem_cons.1 ((h b).2 (by simp)) with h2 | h2
        · exact h2.symm
        · have := hm.1 a h1; have := hl.1 b h2; omega
    subst e
    have : l = m := asc_ext hl.2 hm.2 fun x => by
      constructor
      · intro hx
        rcases List.mem_cons.1 ((h x).1 (List.mem_cons_of_mem _ hx)) with h1 | h1
        · have := hl.1 x hx; omega
        · exact h1
      · intro hx
        rcases List.mem_cons.1 ((h x).2 (List.mem_cons_of_mem _ hx)) with h1 | h1
        · have := hm.1 x hx; omega
        · exact h1
    rw [this]
theorem sortI_asc {xs : List Int} (h : xs.Nodup) : (sortI xs).Pairwise (· < ·) := by
  have h1 : (sortI xs).Pairwise (fun a b => decide (a ≤ b) = true) := List.pairwise_mergeSort (fun a b c h1 h2 => by simp at *; omega) (fun a b => by simp; omega) xs
  have h2 : (sortI xs).Nodup := (List.mergeSort_perm xs _).nodup_iff.2 h
  exact (h1.and h2).imp fun {a b} ⟨h1, h2⟩ => by simp at h1; omega
theorem sortI_mem (xs : List Int) (x : Int) : x ∈ sortI xs ↔ x ∈ xs := (List.mergeSort_perm xs _).mem_iff
theorem nbS_mem {l : List (Int × Int)} (hl : ∀ x ∈ l, x.1 < x.2) (z y : Int) : y ∈ nbS l z ↔ keyL z y ∈ l := by
  rw [nbS, List.mem_filterMap]
  constructor
  · rintro ⟨⟨a, b⟩, hx, he⟩
    have hab := hl _ hx
    simp only [otherE] at he hab
    split at he
    · rename_i h1
      injection he with he
      subst he h1
      rw [keyL, Int.min_eq_left (by omega), Int.max_eq_right (by omega)]; exact hx
    · split at he
      · rename_i _ h1
        injection he with he
        subst he h1
        rw [keyL, Int.min_eq_right (by omega), Int.max_eq_left (by omega)]; exact hx
      · cases he
  · intro hm
    refine ⟨keyL z y, hm, ?_⟩
    have := hl _ hm
    simp only [keyL] at this ⊢
    rw [otherE]
    by_cases h : z ≤ y
    · rw [Int.min_eq_left h, Int.max_eq_right h, if_pos rfl]
    · rw [Int.min_eq_right (by omega), Int.max_eq_left (by omega), if_neg (by simp; omega), if_pos rfl]
theorem nbS_nodup {l : List (Int × Int)} (hl : ∀ x ∈ l, x.1 < x.2) (hn : l.Nodup) (z : Int) : (nbS l z).Nodup := by
  induction l with
  | nil => simp [nbS]
  | cons x t ih =>
    rw [List.nodup_cons] at hn
    have iht := ih (fun y hy => hl y (List.mem_cons_of_mem _ hy)) hn.2
    cases ho : otherE z x with
    | none => rw [nbS, List.filterMap_cons_none ho]; exact iht
    | some y =>
      rw [nbS, List.filterMap_cons_some ho, List.nodup_cons]
      refine ⟨fun hm => ?_, iht⟩
      have h1 := (nbS_mem (fun y hy => hl y (List.mem_cons_of_mem _ hy)) z y).1 hm
      have h2 : x = keyL z y := by
        have hx := hl x (by simp)
        obtain ⟨a, b⟩ := x
        simp only [otherE] at ho hx
        rw [keyL]
        split at ho
        · rename_i e; injection ho with ho; subst ho e
          rw [Int.min_eq_left (by omega), Int.max_eq_right (by omega)]
        · split at ho
          · rename_i _ e; injection ho with ho; subst ho e
            rw [Int.min_eq_right (by omega), Int.max_eq_left (by omega)]
          · cases ho
      exact hn.1 (h2 ▸ h1)
/-- The near zones in order. -/
theorem near_sort {Z : Nat} {l : List (Int × Int)} (hv : trapE Z l = 0) (z : Int) : sortI (nbS l z) = nearL l z Z := by
  obtain ⟨_, hl, hn⟩ := trapE_zero hv
  have hl' : ∀ x ∈ l, x.1 < x.2 := fun x hx => (hl x hx).2.1
  refine asc_ext (sortI_asc (nbS_nodup hl' hn z)) (upTo_sorted _ _) fun y => ?_
  rw [sortI_mem, nbS_mem hl', nearL, upTo_mem, linkB, decide_eq_true_eq]
  constructor
  · intro hm
    have := hl _ hm
    simp only [keyL] at this
    exact ⟨by omega, by omega, hm⟩
  · rintro ⟨_, _, hm⟩; exact hm
/-- The first k rows put in order. -/
def sortTo (t : List (List Int)) (k : Nat) : List (List Int) := (t.take k).map sortI ++ t.drop k
theorem sortTo_len (t : List (List Int)) (k : Nat) : (sortTo t k).length = t.length := by simp [sortTo]; omega
theorem sortTo_zero (t : List (List Int)) : sortTo t 0 = t := by simp [sortTo]
theorem sortTo_all (t : List (List Int)) : sortTo t t.length = t.map sortI := by simp [sortTo]
theorem sortTo_at (t : List (List Int)) {k : Nat} (h : k < t.length) : (sortTo t k).getD k [] = t.getD k [] := by
  rw [sortTo, List.getD_eq_getElem?_getD, List.getElem?_append_right (by simp; omega)]
  simp [Nat.min_eq_left (Nat.le_of_lt h)]
theorem sortTo_succ (t : List (List Int)) {k : Nat} (h : k < t.length) : sortTo t (k + 1) = (sortTo t k).set k (sortI (t.getD k [])) := by
  have hl : ((t.take k).map sortI).length = k := by simp; omega
  have hd : t.drop k = t.getD k [] :: t.drop (k + 1) := by rw [List.drop_eq_getElem_cons h]; simp [h]
  have ht : t.take (k + 1) = t.take k ++ [t.getD k []] := by rw [List.take_succ_eq_append_getElem h]; simp [h]
  rw [sortTo, sortTo, ht, List.map_append, List.set_append_right _ _ (by omega), hl, Nat.sub_self, hd]
  simp
end Go.Proofs.Ytjgpfnnokdcgoaa
