/- Mathematics of exchanges: two untied neighbors exchanged change no name, no layer and no number of orders. -/
import Derived.Test.YteoajadcdjaalaaLayA
import Derived.Test.YteoajadcdjaalaaSorted
import Derived.Test.YteoajadcdjaalaaCntE
namespace Go.Proofs.Yteoajadcdjaalaa

theorem fr_in (l : List G) {i : Nat} (hf : freeB l i = true) : ∀ k, i < k → l.getD i g0 ∈ frG l k
  | 0, h => by omega
  | k + 1, h => by
    rw [frG]
    by_cases hi : i = k
    · subst hi; rw [if_pos hf]; simp
    · have ih := fr_in l hf k (by omega)
      split
      · exact List.mem_append_left _ ih
      · exact ih
theorem fr_mem2 (l : List G) : ∀ k, k ≤ l.length → ∀ y ∈ frG l k, ∃ j, j < k ∧ freeB l j = true ∧ y = l.getD j g0
  | 0, _, y, h => by cases h
  | k + 1, hk, y, h => by
    have ih := fr_mem2 l k (by omega)
    rw [frG] at h
    split at h
    · rename_i hf
      rcases List.mem_append.1 h with h | h
      · obtain ⟨j, hj, e⟩ := ih y h; exact ⟨j, by omega, e⟩
      · exact ⟨k, by omega, hf, List.mem_singleton.1 h⟩
    · obtain ⟨j, hj, e⟩ := ih y h; exact ⟨j, by omega, e⟩
theorem fr_nodup (l : List G) : (frG l l.length).Nodup := by
  refine (fr_apart l l.length (Nat.le_refl _)).imp ?_
  rintro x y h rfl
  rw [tiedG_type rfl] at h; cases h
theorem fr_sub {c d : List G} (h : alkL c d) : ∀ x, x ∈ frG c c.length → x ∈ frG d d.length := fun x hx => by
  obtain ⟨j, hj, hf, rfl⟩ := fr_mem2 c _ (Nat.le_refl _) x hx
  obtain ⟨i, hi, hfi, he⟩ := alk_free h hj hf
  rw [← he]; exact fr_in d hfi _ hi
theorem fr_perm {c d : List G} (h : alkL c d) : (frG c c.length).Perm (frG d d.length) :=
  (List.perm_ext_iff_of_nodup (fr_nodup c) (fr_nodup d)).2 fun x => ⟨fr_sub h x, fr_sub h.symm x⟩
theorem alk_cancel_l : ∀ (p : List G) {c d : List G}, alkL (p ++ c) (p ++ d) → alkL c d
  | [], _, _, h => h
  | x :: p, _, _, h => alk_cancel_l p ((alk_cons x).1 h)
theorem nf_alk {c d : List G} (h : alkL c d) : alkL (nfG c c.length) (nfG d d.length) := by
  have h1 := fr_first c c.length (Nat.le_refl _)
  have h2 := fr_first d d.length (Nat.le_refl _)
  rw [List.take_length] at h1 h2
  have h3 := alk_of_perm (fr_apart c _ (Nat.le_refl _)) (fr_perm h)
  exact alk_cancel_l _ (((alk_app_r h3 _).symm.trans h1.symm).trans (h.trans h2))
theorem sortG_same {l m : List G} (h : l.Perm m) : sortG l = sortG m := by
  refine srt_all ((sortG_perm l).trans h) ?_
  intro a b hab hb
  have hs : (sortG l).Pairwise fun x y => !ltG y x := List.pairwise_mergeSort (fun x y z h1 h2 => by
      simp only [Bool.not_eq_true'] at h1 h2 ⊢; exact swoG.ntrans _ _ _ h2 h1) (fun x y => by
      cases hh : ltG y x
      · rfl
      · rw [ltG_asymm hh]; rfl) l
  have := List.pairwise_iff_getElem.1 hs a b (by omega) hb hab
  simpa [show a < (sortG l).length by omega, hb] using this
theorem rlay_same : ∀ (k : Nat) (c d : List G), c.length ≤ k → alkL c d → rlay k c = rlay k d
  | 0, _, _, _, _ => rfl
  | k + 1, c, d, hk, h => by
    by_cases hc : c = []
    · subst hc; rw [alk_nil h]
    · have hd : d ≠ [] := fun e => hc (by subst e; exact alk_nil h.symm)
      have h1 := fr_nf_len c c.length
      have h2 := fr_pos hc
      rw [rlay, rlay, if_neg hc, if_neg hd, sortG_same (fr_perm h), rlay_same k _ _ (by omega) (nf_alk h)]
theorem lay_same {c d : List G} (h : alkL c d) : layL c = layL d := by
  rw [← rlay_lay c.length c (Nat.le_refl _), ← rlay_lay c.length d (Nat.le_of_eq (alk_len h).symm)]
  exact rlay_same _ c d (Nat.le_refl _) h

theorem swp_alk {l : List G} {k : Nat} (h : k + 1 < l.length) (ht : tiedG (l.getD k g0) (l.getD (k + 1) g0) = false) : alkL l (swpG l k) := by
  obtain ⟨p, x, y, s, rfl, rfl⟩ : ∃ p x y s, l = p ++ x :: y :: s ∧ p.length = k := by
    refine ⟨l.take k, l[k], l[k + 1], l.drop (k + 2), ?_, by simp; omega⟩
    have h1 : l.drop k = l[k] :: l[k + 1] :: l.drop (k + 2) := by rw [List.drop_eq_getElem_cons (by omega), List.drop_eq_getElem_cons h]
    rw [← h1, List.take_append_drop]
  have hx : (p ++ x :: y :: s).getD p.length g0 = x := by rw [List.getD_eq_getElem?_getD, List.getElem?_append_right (Nat.le_refl _), Nat.sub_self]; rfl
  have hy : (p ++ x :: y :: s).getD (p.length + 1) g0 = y := by rw [List.getD_eq_getElem?_getD, List.getElem?_append_right (by omega), show p.length + 1 - p.length = 1 by omega]; rfl
  rw [hx, hy] at ht
  have e : swpG (p ++ x :: y :: s) p.length = p ++ ([y, x] ++ s) := by
    unfold swpG
    rw [hx, hy, List.set_append_right _ _ (by omega), show p.length + 1 - p.length = 1 by omega, List.set_append_right _ _ (Nat.le_refl _), Nat.sub_self]; rfl
  rw [e]
  exact alk_app_l p (alk_app_r (alk_swap ht) s)

/-- Orders of the exchanged relation. -/
theorem Fc_sw {P Q : Nat → Nat → Bool} {m a : Nat} (ha : a + 1 < m) (h : ∀ j i, j < m → i < m → Q j i = P (sw a j) (sw a i)) : ∀ n (S : Nat → Bool), Fc Q m n S = Fc P m n (fun k => S (sw a k))
  | 0, _ => rfl
  | n + 1, S => by
    rw [Fc, Fc, ← sumN_sw (fun i => if firstB P m (fun k => S (sw a k)) i = true then Fc P m n (remB (fun k => S (sw a k)) i) else 0) a m ha]
    refine sumN_congr m fun i hi => ?_
    have e1 : firstB Q m S i = firstB P m (fun k => S (sw a k)) (sw a i) := by
      rw [Bool.eq_iff_iff, firstB_iff, firstB_iff, sw_sw]
      constructor
      · rintro ⟨h1, h2⟩
        refine ⟨h1, fun j hj sj => ?_⟩
        have := h2 (sw a j) (sw_lt ha hj) sj
        rw [h _ _ (sw_lt ha hj) hi, sw_sw] at this; exact this
      · rintro ⟨h1, h2⟩
        refine ⟨h1, fun j hj sj => ?_⟩
        rw [h j i hj hi]
        exact h2 (sw a j) (sw_lt ha hj) (by show S (sw a (sw a j)) = true; rw [sw_sw]; exact sj)
    have e2 : (fun k => remB S i (sw a k)) = remB (fun k => S (sw a k)) (sw a i) := by
      funext k
      rw [Bool.eq_iff_iff, remB_iff, remB_iff]
      constructor
      · rintro ⟨h1, h2⟩; exact ⟨h1, fun e => h2 (by rw [e, sw_sw])⟩
      · rintro ⟨h1, h2⟩; exact ⟨h1, fun e => h2 (by rw [← e, sw_sw])⟩
    rw [e1, Fc_sw ha h n (remB S i), e2]
theorem cnt_swp {l : List G} {k : Nat} (h : k + 1 < l.length) (ht : tiedG (l.getD k g0) (l.getD (k + 1) g0) = false) : cntL (swpG l k) = cntL l := by
  have hg : ∀ j, (swpG l k).getD j g0 = l.getD (sw k j) g0 := fun j => by
    rw [swpG_get h]; unfold sw
    split
    · rfl
    · split <;> rfl
  have hQ : ∀ j i, j < l.length → i < l.length → tb (swpG l k) j i = tb l (sw k j) (sw k i) := by
    intro j i _ _
    rw [tb, tb, hg, hg]
    by_cases h1 : j = k ∧ i = k + 1
    · obtain ⟨rfl, rfl⟩ := h1
      have e1 : sw j j = j + 1 := by simp [sw]
      have e2 : sw j (j + 1) = j := by simp [sw]
      rw [e1, e2, tiedG_symm, ht]; simp
    · by_cases h2 : j = k + 1 ∧ i = k
      · obtain ⟨rfl, rfl⟩ := h2
        have e1 : sw i i = i + 1 := by simp [sw]
        have e2 : sw i (i + 1) = i := by simp [sw]
        rw [e1, e2, ht]; simp
      · have e : (j < i) = (sw k j < sw k i) := by
          apply propext
          unfold sw
          repeat' split
          all_goals omega
        simp only [e]
  rw [cntL_Fc, cntL_Fc, swpG_len, Fc_sw (P := tb l) (Q := tb (swpG l k)) h hQ]
end Go.Proofs.Yteoajadcdjaalaa
