/- A plan with all heats multiplied needs as many coolings by the multiplied limit. -/
import Derived.Test.YtlhnbknilcmleaaSca
namespace Go.Proofs.Ytlhnbknilcmleaa

theorem gstep_scl {lim ion b : Int} (hb : 1 ≤ b) (s : Nat × Int) (a : T3) : gstep (lim * b) ion (s.1, s.2 * b) (sclX b a) = ((gstep lim ion s a).1, (gstep lim ion s a).2 * b) := by
  have h1 : (lim * b < s.2 * b) ↔ lim < s.2 := Int.mul_lt_mul_right (by omega)
  unfold gstep sclX
  simp only []
  by_cases h : a.2.1 = ion
  · rw [if_pos h, if_pos h]
    by_cases h2 : a.1 = 2
    · rw [if_pos h2, if_pos h2]; simp
    · rw [if_neg h2, if_neg h2]
      by_cases h3 : a.1 = 1 ∧ lim < s.2
      · rw [if_pos h3, if_pos ⟨h3.1, h1.2 h3.2⟩]
      · rw [if_neg h3, if_neg fun x => h3 ⟨x.1, h1.1 x.2⟩, Int.add_mul]
  · rw [if_neg h, if_neg h]
theorem gr_scl {lim ion b : Int} (hb : 1 ≤ b) : ∀ (l : List T3) (s : Nat × Int), (l.map (sclX b)).foldl (gstep (lim * b) ion) (s.1, s.2 * b) = ((l.foldl (gstep lim ion) s).1, (l.foldl (gstep lim ion) s).2 * b)
  | [], s => rfl
  | a :: t, s => by
    have ih := gr_scl (lim := lim) (ion := ion) hb t (gstep lim ion s a)
    rw [List.map_cons, List.foldl_cons, List.foldl_cons, gstep_scl hb]
    exact ih
theorem few_scl {lim b : Int} (hb : 1 ≤ b) (l : List T3) : few (lim * b) (l.map (sclX b)) = few lim l := by
  have h : ∀ ion, few1 (lim * b) (l.map (sclX b)) ion = few1 lim l ion := fun ion => by
    have := gr_scl (lim := lim) (ion := ion) hb l (0, 0)
    rw [Int.zero_mul] at this
    rw [few1, few1, gr, gr, this]
  rw [few, few, h, h, h, h]
theorem scl_valid {n b : Int} {l : List T3} (hb : 1 ≤ b) (h : sclE n l b = 0) : validE n l = 0 ∧ validE n (sclG n l b) = 0 ∧ sclG n l b = l.map (sclX b) := by
  rcases scl_cases3 n l b with ⟨h1, h2, _⟩ | ⟨h1, h2, h3⟩
  · exact absurd (h2.symm.trans h) h1
  · cases ho : sclOk b l with
    | false => rw [(h3 ho).1] at h; cases h
    | true =>
      obtain ⟨_, e⟩ := h2 ho
      obtain ⟨v1, v2, v3⟩ := validE_zero.1 h1
      refine ⟨h1, ?_, e⟩
      rw [e]
      refine validE_zero.2 ⟨v1, by rw [List.length_map]; exact v2, ?_⟩
      rw [List.all_eq_true]
      intro x hx
      obtain ⟨a, ha, rfl⟩ := List.mem_map.1 hx
      have hA := List.all_eq_true.1 v3 a ha
      have hS := List.all_eq_true.1 ho a ha
      have hB := actB_act4 v1.2 hA
      have hp : 0 ≤ a.2.2 * b ∧ a.2.2 * b ≤ 100 := by
        by_cases e0 : a.2.2 = 0
        · rw [e0, Int.zero_mul]; omega
        · simp only [sclB, Bool.or_eq_true, beq_iff_eq, e0, false_or, Bool.and_eq_true, decide_eq_true_eq] at hS
          refine ⟨Int.mul_nonneg hB.h0 (by omega), by rw [Int.mul_comm]; exact hS.2⟩
      simp only [actB, Bool.and_eq_true, Bool.or_eq_true, inB_z, bne_iff_ne, beq_iff_eq] at hA ⊢
      obtain ⟨⟨⟨q1, q2⟩, _⟩, q4⟩ := hA
      refine ⟨⟨⟨q1, q2⟩, hp⟩, ?_⟩
      rcases q4 with q | q
      · exact .inl q
      · refine .inr ?_
        show a.2.2 * b = 0
        rw [q, Int.zero_mul]
theorem sclG_len (n : Int) (l : List T3) (b : Int) : (sclG n l b).length ≤ l.length := by
  rw [sclG]; split
  · simp
  · simp
end Go.Proofs.Ytlhnbknilcmleaa
