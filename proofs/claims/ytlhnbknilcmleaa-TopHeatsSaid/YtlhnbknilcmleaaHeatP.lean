/- The acts of one ion: their coolings and heats. Lists and numbers alone. -/
import Derived.Test.YtlhnbknilcmleaaHeatN
namespace Go.Proofs.Ytlhnbknilcmleaa

theorem gonly_same (lim ion : Int) (l : List T3) : ∀ s, (l.filter fun a => a.2.1 == ion).foldl (gstep lim ion) s = l.foldl (gstep lim ion) s := by
  induction l with
  | nil => intro s; rfl
  | cons a t ih =>
    intro s
    by_cases h : a.2.1 = ion
    · rw [List.filter_cons_of_pos (by simp [h])]; exact ih _
    · rw [List.filter_cons_of_neg (by simp [h]), List.foldl_cons]
      have e : gstep lim ion s a = s := by unfold gstep; exact if_neg h
      rw [e]; exact ih s
theorem gonly_other {lim ion ion' : Int} (hne : ion' ≠ ion) (l : List T3) : ∀ s, (l.filter fun a => a.2.1 == ion).foldl (gstep lim ion') s = s := by
  induction l with
  | nil => intro s; rfl
  | cons a t ih =>
    intro s
    by_cases h : a.2.1 = ion
    · rw [List.filter_cons_of_pos (by simp [h]), List.foldl_cons]
      have e : gstep lim ion' s a = s := by unfold gstep; exact if_neg (fun x => hne (x.symm.trans h))
      rw [e]; exact ih s
    · rw [List.filter_cons_of_neg (by simp [h])]; exact ih s
theorem honly_same (ion : Int) (l : List T3) : ∀ s, (l.filter fun a => a.2.1 == ion).foldl (hstep ion) s = l.foldl (hstep ion) s := by
  induction l with
  | nil => intro s; rfl
  | cons a t ih =>
    intro s
    by_cases h : a.2.1 = ion
    · rw [List.filter_cons_of_pos (by simp [h])]; exact ih _
    · rw [List.filter_cons_of_neg (by simp [h]), List.foldl_cons]
      have e : hstep ion s a = s := by unfold hstep; exact if_neg h
      rw [e]; exact ih s
theorem honly_other {ion ion' : Int} (hne : ion' ≠ ion) (l : List T3) : ∀ s, (l.filter fun a => a.2.1 == ion).foldl (hstep ion') s = s := by
  induction l with
  | nil => intro s; rfl
  | cons a t ih =>
    intro s
    by_cases h : a.2.1 = ion
    · rw [List.filter_cons_of_pos (by simp [h]), List.foldl_cons]
      have e : hstep ion' s a = s := by unfold hstep; exact if_neg (fun x => hne (x.symm.trans h))
      rw [e]; exact ih s
    · rw [List.filter_cons_of_neg (by simp [h])]; exact ih s
theorem few_only (lim : Int) (l : List T3) {ion : Int} (h0 : 0 ≤ ion) (h3 : ion ≤ 3) : few lim (l.filter fun a => a.2.1 == ion) = few1 lim l ion := by
  have hs : few1 lim (l.filter fun a => a.2.1 == ion) ion = few1 lim l ion := by rw [few1, gr, gonly_same]; rfl
  have ho : ∀ i, i ≠ ion → few1 lim (l.filter fun a => a.2.1 == ion) i = 0 := fun i hi => by rw [few1, gr, gonly_other hi]
  rcases (show ion = 0 ∨ ion = 1 ∨ ion = 2 ∨ ion = 3 by omega) with rfl | rfl | rfl | rfl
  · rw [few, hs, ho 1 (by decide), ho 2 (by decide), ho 3 (by decide)]; rfl
  · rw [few, hs, ho 0 (by decide), ho 2 (by decide), ho 3 (by decide)]; omega
  · rw [few, hs, ho 0 (by decide), ho 1 (by decide), ho 3 (by decide)]; omega
  · rw [few, hs, ho 0 (by decide), ho 1 (by decide), ho 2 (by decide)]; omega
/-- The coolings of the first ions. -/
def sumF (lim : Int) (l : List T3) : Nat → Nat
  | 0 => 0
  | k + 1 => sumF lim l k + few1 lim l k
theorem few1_none {lim ion : Int} {l : List T3} (h : ∀ a ∈ l, a.2.1 ≠ ion) : few1 lim l ion = 0 := by
  have : ∀ s, l.foldl (gstep lim ion) s = s := by
    induction l with
    | nil => intro s; rfl
    | cons a t ih =>
      intro s
      have e : gstep lim ion s a = s := by unfold gstep; exact if_neg (h a (by simp))
      rw [List.foldl_cons, e]
      exact ih (fun b hb => h b (by simp [hb])) s
  rw [few1, gr, this]
theorem sumF_all {n : Nat} {lim : Int} {l : List T3} (h1 : 1 ≤ n) (h4 : n ≤ 4) (hb : l.all (actB n) = true) : sumF lim l n = few lim l := by
  have hz : ∀ i : Int, (n : Int) ≤ i → few1 lim l i = 0 := fun i hi => few1_none fun a ha => by
    have := List.all_eq_true.1 hb a ha
    simp only [actB, Bool.and_eq_true, inB_z] at this
    omega
  rcases (show n = 1 ∨ n = 2 ∨ n = 3 ∨ n = 4 by omega) with rfl | rfl | rfl | rfl
  · simp [sumF, few, hz 1, hz 2, hz 3]
  · simp [sumF, few, hz 2, hz 3]
  · simp [sumF, few, hz 3]
  · simp [sumF, few]
theorem sumF_le {lim : Int} {l : List T3} (ha : Acts l) : ∀ k, sumF lim l k ≤ k * l.length
  | 0 => by simp [sumF]
  | k + 1 => by
    have := sumF_le (lim := lim) ha k
    have h := (gr_range ha lim (k : Int)).2.2
    rw [sumF, Nat.succ_mul, few1]; omega
theorem only_valid {n : Int} {l : List T3} (h : validE n l = 0) (ion : Int) : validE n (l.filter fun a => a.2.1 == ion) = 0 := by
  obtain ⟨h1, h2, h3⟩ := validE_zero.1 h
  refine validE_zero.2 ⟨h1, Nat.le_trans (List.length_filter_le _ _) h2, ?_⟩
  rw [List.all_eq_true] at h3 ⊢
  exact fun a ha => h3 a (List.mem_filter.1 ha).1
end Go.Proofs.Ytlhnbknilcmleaa
