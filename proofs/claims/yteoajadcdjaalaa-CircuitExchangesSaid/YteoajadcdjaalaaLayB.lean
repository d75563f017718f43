/- The document's Layers: mathematics of the inner loop, and tables that grow by a row. -/
import Derived.Test.YteoajadcdjaalaaSorted
import Derived.Test.YteoajadcdjaalaaLayC
namespace Go.Proofs.Yteoajadcdjaalaa
open Go.RowKit

theorem fr_len (m : List G) : ∀ k, (frG m k).length = (frTo m k).length
  | 0 => rfl
  | k + 1 => by
    have := fr_len m k
    rw [frG, frTo]; split <;> simp [this]
theorem frTo_pre (m : List G) {t : Nat} : ∀ {n : Nat}, t ≤ n → ∃ s, frTo m n = frTo m t ++ s
  | 0, h => by obtain rfl : t = 0 := by omega
               exact ⟨[], by simp⟩
  | n + 1, h => by
    by_cases ht : t = n + 1
    · subst ht; exact ⟨[], by simp⟩
    · obtain ⟨s, hs⟩ := frTo_pre m (show t ≤ n by omega)
      rw [frTo]
      split
      · exact ⟨s ++ [(n : Int)], by rw [hs, List.append_assoc]⟩
      · exact ⟨s, hs⟩
theorem nf_pre (m : List G) {t : Nat} : ∀ {n : Nat}, t ≤ n → ∃ s, nfG m n = nfG m t ++ s
  | 0, h => by obtain rfl : t = 0 := by omega
               exact ⟨[], by simp⟩
  | n + 1, h => by
    by_cases ht : t = n + 1
    · subst ht; exact ⟨[], by simp⟩
    · obtain ⟨s, hs⟩ := nf_pre m (show t ≤ n by omega)
      rw [nfG]
      split
      · exact ⟨s, hs⟩
      · exact ⟨s ++ [m.getD n g0], by rw [hs, List.append_assoc]⟩
/-- The circuit without its free gates from t on. -/
def keepG (m : List G) (t : Nat) : List G := m.take t ++ (nfG m m.length).drop (nfG m t).length
theorem keepG_all (m : List G) : keepG m m.length = m := by
  unfold keepG; rw [List.take_length, List.drop_length, List.append_nil]
theorem keepG_zero (m : List G) : keepG m 0 = nfG m m.length := by simp [keepG, nfG]
theorem keepG_skip {m : List G} {t : Nat} (h : t < m.length) (hf : freeB m t = false) : keepG m (t + 1) = keepG m t := by
  obtain ⟨s, hs⟩ := nf_pre m (t := t + 1) (n := m.length) (by omega)
  have h1 : nfG m (t + 1) = nfG m t ++ [m.getD t g0] := by rw [nfG, hf]; rfl
  have hd1 : (nfG m m.length).drop (nfG m (t + 1)).length = s := by rw [hs, List.drop_left']; rfl
  have hd0 : (nfG m m.length).drop (nfG m t).length = m.getD t g0 :: s := by
    rw [hs, h1, List.append_assoc, List.drop_left']
    · rfl
    · rfl
  unfold keepG
  rw [hd1, hd0, take_snoc h, List.append_assoc]; rfl
theorem keepG_erase {m : List G} {t : Nat} (h : t < m.length) (hf : freeB m t = true) : (keepG m (t + 1)).eraseIdx t = keepG m t := by
  have h1 : nfG m (t + 1) = nfG m t := by rw [nfG, hf]; rfl
  have hl : (m.take t).length = t := by simp; omega
  unfold keepG
  rw [h1, take_snoc h, List.append_assoc, List.eraseIdx_append_of_length_le (by omega), hl, Nat.sub_self]
  rfl
theorem keepG_get {m : List G} {t : Nat} (h : t < m.length) : t < (keepG m (t + 1)).length ∧ (keepG m (t + 1)).getD t g0 = m.getD t g0 := by
  have hl : (m.take (t + 1)).length = t + 1 := by simp; omega
  unfold keepG
  refine ⟨by rw [List.length_append]; omega, ?_⟩
  rw [List.getD_eq_getElem?_getD, List.getElem?_append_left (by omega)]
  simp
theorem keepG_gs {m : List G} (hg : Gs m) (t : Nat) : Gs (keepG m t) := fun x hx => by
  rcases List.mem_append.1 hx with h | h
  · exact hg x (List.mem_of_mem_take h)
  · obtain ⟨j, hj, rfl⟩ := nf_mem m m.length (Nat.le_refl _) x (List.mem_of_mem_drop h)
    exact hg.get hj
theorem keepG_len (m : List G) (t : Nat) (h : t ≤ m.length) : (keepG m t).length ≤ m.length := by
  have h1 := fr_nf_len m m.length
  have h2 := fr_nf_len m t
  have h3 : (frG m t).length ≤ (frG m m.length).length := by
    rw [fr_len, fr_len]
    obtain ⟨s, hs⟩ := frTo_pre m h
    rw [hs]; simp
  unfold keepG
  simp; omega
/-- The last free gate before t. -/
theorem last_free (m : List G) {j : Nat} : ∀ t, t ≤ m.length → (frTo m t).length = j + 1 → ∃ t0, t0 < t ∧ freeB m t0 = true ∧ (frTo m t0).length = j ∧ (frTo m m.length).getD j 0 = (t0 : Int) ∧ keepG m t = keepG m (t0 + 1) ∧ frG m t = frG m (t0 + 1)
  | 0, _, h => by simp [frTo] at h
  | t + 1, ht, h => by
    by_cases hf : freeB m t = true
    · have h1 : frTo m (t + 1) = frTo m t ++ [(t : Int)] := by rw [frTo, if_pos hf]
      rw [h1] at h
      have hj : (frTo m t).length = j := by simpa using h
      obtain ⟨s, hs⟩ := frTo_pre m ht
      refine ⟨t, by omega, hf, hj, ?_, rfl, rfl⟩
      rw [hs, h1, List.append_assoc, List.getD_eq_getElem?_getD, List.getElem?_append_right (by omega), hj, Nat.sub_self]
      rfl
    · have hf' : freeB m t = false := by simpa using hf
      have h1 : frTo m (t + 1) = frTo m t := by rw [frTo, if_neg hf]
      rw [h1] at h
      obtain ⟨t0, h2, h3, h4, h5, h6, h7⟩ := last_free m t (by omega) h
      refine ⟨t0, by omega, h3, h4, h5, by rw [keepG_skip (by omega) hf', h6], ?_⟩
      rw [frG, if_neg hf, h7]
theorem none_free (m : List G) : ∀ t, t ≤ m.length → (frTo m t).length = 0 → keepG m t = keepG m 0 ∧ frG m t = []
  | 0, _, _ => ⟨rfl, rfl⟩
  | t + 1, ht, h => by
    by_cases hf : freeB m t = true
    · rw [frTo, if_pos hf] at h; simp at h
    · have hf' : freeB m t = false := by simpa using hf
      rw [frTo, if_neg hf] at h
      obtain ⟨h1, h2⟩ := none_free m t (by omega) h
      exact ⟨by rw [keepG_skip (by omega) hf', h1], by rw [frG, if_neg hf, h2]⟩
theorem sortG_congr {l m : List G} (h : l.Perm m) : sortG l = sortG m := by
  refine srt_all ((sortG_perm l).trans h) fun a b hab hb => ?_
  have hs : (sortG l).Pairwise fun x y => (!ltG y x) = true := by
    refine List.pairwise_mergeSort (le := fun x y => !ltG y x) (fun x y z h1 h2 => ?_) (fun x y => ?_) l
    · simp only [Bool.not_eq_true'] at h1 h2 ⊢
      exact swoG.ntrans _ _ _ h2 h1
    · simp only [Bool.or_eq_true, Bool.not_eq_true']
      cases hxy : ltG y x with
      | false => exact .inl rfl
      | true => exact .inr (ltG_asymm hxy)
  rw [List.pairwise_iff_getElem] at hs
  have := hs a b (by omega) hb hab
  have e1 : (sortG l).getD b g0 = (sortG l)[b] := by simp [hb]
  have e2 : (sortG l).getD a g0 = (sortG l)[a] := by simp [show a < (sortG l).length by omega]
  rw [e1, e2]
  simpa using this
theorem lay_step_math {m : List G} (h : m ≠ []) : layL m = sortG (frG m m.length) :: layL (nfG m m.length) := by
  have h1 := fr_nf_len m m.length
  have h2 := fr_pos h
  obtain ⟨k, hk⟩ : ∃ k, m.length = k + 1 := ⟨m.length - 1, by have := List.length_pos_iff.2 h; omega⟩
  rw [← rlay_lay m.length m (Nat.le_refl _), hk, rlay, if_neg h, rlay_lay k _ (by rw [hk] at h1; rw [hk] at h2; rw [hk]; omega), hk]

/-- A new row behind those of a table. -/
theorem TabG.snoc {w : World} {base b2 : Nat} {hs : List Value} {ls : List (List G)} (h : TabG w base hs ls) (h0 : ∀ (j : Nat) (u : Value) (b : Nat), hs[j]? = some u → u.ownBlock = some b → b < b2) (hb : base ≤ b2) {A : Option Addr} {l : List G} {c : Nat} (ho : w.ownsRow b2 23 4 (.slice A l.length c) l.length (cellsG l)) :
    TabG w base (hs ++ [.slice A l.length c]) (ls ++ [l]) := by
  refine ⟨by simp [h.1], fun k hk => ?_, fun j k u v hjk hj hk b hu hv => ?_⟩
  · rcases Nat.lt_or_ge k ls.length with hlt | hge
    · obtain ⟨A', c', h1, h2⟩ := h.2.1 k hlt
      have e : (ls ++ [l]).getD k [] = ls.getD k [] := by simp [hlt, List.getElem?_append_left hlt]
      rw [e]
      exact ⟨A', c', by rw [List.getElem?_append_left (by rw [h.1]; exact hlt)]; exact h1, h2⟩
    · have hk' : k = ls.length := by simp at hk; omega
      subst hk'
      have e : (ls ++ [l]).getD ls.length [] = l := by simp
      rw [e]
      exact ⟨A, c, by rw [List.getElem?_append_right (by rw [h.1]; exact Nat.le_refl _), h.1]; simp, own_base ho hb⟩
  · have hlast : ∀ (k : Nat) (u : Value), (hs ++ [Value.slice A l.length c])[k]? = some u → hs[k]? = some u ∨ (k = hs.length ∧ u = .slice A l.length c) := by
      intro k u hk
      rcases Nat.lt_or_ge k hs.length with hlt | hge
      · rw [List.getElem?_append_left hlt] at hk; exact .inl hk
      · rw [List.getElem?_append_right hge] at hk
        cases hj : k - hs.length with
        | zero => rw [hj] at hk; simp at hk; exact .inr ⟨by omega, hk.symm⟩
        | succ n => rw [hj] at hk; simp at hk
    rcases hlast j u hj with h1 | ⟨h1, rfl⟩ <;> rcases hlast k v hk with h2 | ⟨h2, rfl⟩
    · exact h.2.2 j k u v hjk h1 h2 b hu hv
    · have := h0 j u b h1 hu
      have := (ho.lt b hv).1
      omega
    · have := h0 k v b h2 hv
      have := (ho.lt b hu).1
      omega
    · omega
theorem TabG.lt {w : World} {base : Nat} {hs : List Value} {ls : List (List G)} (h : TabG w base hs ls) : ∀ (j : Nat) (u : Value) (b : Nat), hs[j]? = some u → u.ownBlock = some b → b < w.heap.size := by
  intro j u b hj hb
  have hjl : j < ls.length := by rw [← h.1]; exact (List.getElem?_eq_some_iff.1 hj).1
  obtain ⟨A, c, h1, h2⟩ := h.2.1 j hjl
  rw [hj] at h1
  cases h1
  exact (h2.lt b hb).2
end Go.Proofs.Yteoajadcdjaalaa
