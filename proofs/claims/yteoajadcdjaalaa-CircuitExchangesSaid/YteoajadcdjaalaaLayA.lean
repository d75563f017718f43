/- Mathematics of layers: the free gates, and then the layers of the others; one after another they are alike to the circuit. -/
import Derived.Test.YteoajadcdjaalaaFst
import Derived.Test.YteoajadcdjaalaaRedM
namespace Go.Proofs.Yteoajadcdjaalaa

abbrev LA := List (G × Nat)
def levF (g : G) (m : Nat) (e : G × Nat) : Nat := if tiedG e.1 g then max m (e.2 + 1) else m
/-- The level of a gate behind others. -/
def nlev (A : LA) (g : G) : Nat := A.foldl (levF g) 0
def annR (A : LA) : List G → LA
  | [] => A
  | g :: t => annR (A ++ [(g, nlev A g)]) t
/-- The gates with their levels. -/
def ann (l : List G) : LA := annR [] l
theorem annR_snoc (g : G) : ∀ (l : List G) (A : LA), annR A (l ++ [g]) = annR A l ++ [(g, nlev (annR A l) g)]
  | [], A => rfl
  | x :: t, A => by rw [List.cons_append, annR, annR_snoc g t]; rfl
theorem ann_snoc (l : List G) (g : G) : ann (l ++ [g]) = ann l ++ [(g, nlev (ann l) g)] := annR_snoc g l []
theorem nlev_snoc (A : LA) (e : G × Nat) (g : G) : nlev (A ++ [e]) g = if tiedG e.1 g then max (nlev A g) (e.2 + 1) else nlev A g := by
  unfold nlev; rw [List.foldl_append]; rfl
theorem ann_fst (l : List G) : (ann l).map (·.1) = l := by
  have key : ∀ (k : Nat) (l : List G), l.length = k → (ann l).map (·.1) = l := by
    intro k
    induction k with
    | zero => intro l h; rw [List.length_eq_zero_iff.1 h]; rfl
    | succ k ih =>
      intro l h
      rcases List.eq_nil_or_concat l with rfl | ⟨m, g, rfl⟩
      · simp at h
      · have e2 : (m.concat g) = m ++ [g] := by simp
        rw [e2] at h ⊢
        rw [ann_snoc, List.map_append, ih m (by simpa using h)]; rfl
  exact key _ l rfl
def decF (A : LA) : LA := (A.filter fun e => decide (1 ≤ e.2)).map fun e => (e.1, e.2 - 1)
theorem decF_cons (e : G × Nat) (A : LA) : decF (e :: A) = if 1 ≤ e.2 then (e.1, e.2 - 1) :: decF A else decF A := by
  unfold decF
  rw [List.filter_cons]
  by_cases h : 1 ≤ e.2
  · rw [if_pos (by simpa using h), if_pos h]; rfl
  · rw [if_neg (by simpa using h), if_neg h]
theorem decF_append (A B : LA) : decF (A ++ B) = decF A ++ decF B := by unfold decF; rw [List.filter_append, List.map_append]
theorem nlev_dec (g : G) : ∀ (A : LA) (m : Nat), (decF A).foldl (levF g) (m - 1) = A.foldl (levF g) m - 1
  | [], m => rfl
  | e :: A, m => by
    rw [decF_cons, List.foldl_cons]
    by_cases h : 1 ≤ e.2
    · rw [if_pos h, List.foldl_cons, ← nlev_dec g A]
      congr 1
      unfold levF
      split <;> simp_all <;> omega
    · rw [if_neg h, ← nlev_dec g A]
      congr 1
      unfold levF
      split <;> omega
/-- The gates that are not free. -/
def restG (l : List G) : List G := (decF (ann l)).map (·.1)
theorem ann_rest : ∀ (k : Nat) (l : List G), l.length = k → ann (restG l) = decF (ann l)
  | 0, l, h => by rw [List.length_eq_zero_iff.1 h]; rfl
  | k + 1, l, h => by
    rcases List.eq_nil_or_concat l with rfl | ⟨m, g, rfl⟩
    · simp at h
    · have e2 : (m.concat g) = m ++ [g] := by simp
      rw [e2] at h ⊢
      have ih := ann_rest k m (by simpa using h)
      have hd : decF (ann (m ++ [g])) = decF (ann m) ++ (if 1 ≤ nlev (ann m) g then [(g, nlev (ann m) g - 1)] else []) := by
        rw [ann_snoc, decF_append, decF_cons]
        split <;> rfl
      unfold restG
      rw [hd]
      split
      · rw [List.map_append]
        show ann (restG m ++ [g]) = _
        rw [ann_snoc, ih]
        have := nlev_dec g (ann m) 0
        have e : nlev (decF (ann m)) g = nlev (ann m) g - 1 := this
        rw [e]
      · rw [List.append_nil]
        exact ih
def rowA (A : LA) (L : Nat) : List G := (A.filter fun e => e.2 == L).map (·.1)
theorem rowA_append (A B : LA) (L : Nat) : rowA (A ++ B) L = rowA A L ++ rowA B L := by unfold rowA; rw [List.filter_append, List.map_append]
theorem rowA_cons (e : G × Nat) (A : LA) (L : Nat) : rowA (e :: A) L = if e.2 = L then e.1 :: rowA A L else rowA A L := by
  unfold rowA
  rw [List.filter_cons]
  by_cases h : e.2 = L
  · rw [if_pos (by simpa using h), if_pos h]; rfl
  · rw [if_neg (by simpa using h), if_neg h]
theorem rowA_dec : ∀ (A : LA) (L : Nat), rowA (decF A) L = rowA A (L + 1)
  | [], _ => rfl
  | e :: A, L => by
    have ih := rowA_dec A L
    rw [decF_cons, rowA_cons]
    by_cases h : 1 ≤ e.2
    · rw [if_pos h, rowA_cons, ih]
      by_cases h2 : e.2 = L + 1
      · rw [if_pos (by show e.2 - 1 = L; omega), if_pos h2]
      · rw [if_neg (by show ¬ e.2 - 1 = L; omega), if_neg h2]
    · rw [if_neg h, if_neg (by omega), ih]
def cntF (m : Nat) (e : G × Nat) : Nat := max m (e.2 + 1)
def cntA (A : LA) : Nat := A.foldl cntF 0
theorem cntA_snoc (A : LA) (e : G × Nat) : cntA (A ++ [e]) = max (cntA A) (e.2 + 1) := by unfold cntA; rw [List.foldl_append]; rfl
theorem cntA_dec' : ∀ (A : LA) (m : Nat), (decF A).foldl cntF (m - 1) = A.foldl cntF m - 1
  | [], m => rfl
  | e :: A, m => by
    rw [decF_cons, List.foldl_cons]
    by_cases h : 1 ≤ e.2
    · rw [if_pos h, List.foldl_cons, ← cntA_dec' A]
      congr 1
      show max (m - 1) (e.2 - 1 + 1) = max m (e.2 + 1) - 1
      omega
    · rw [if_neg h, ← cntA_dec' A]
      congr 1
      show m - 1 = max m (e.2 + 1) - 1
      omega
theorem cntA_dec (A : LA) : cntA (decF A) = cntA A - 1 := cntA_dec' A 0

theorem take_snoc {l : List G} {k : Nat} (h : k < l.length) : l.take (k + 1) = l.take k ++ [l.getD k g0] := by
  rw [List.take_succ_eq_append_getElem h]; simp [h]
/-- The levels of the program. -/
theorem lev_ann (l : List G) : ∀ i, i < l.length → ∀ j, j ≤ i → lvTo l (lvL l i) i j = (nlev (ann (l.take j)) (l.getD i g0) : Nat) := by
  intro i
  induction i using Nat.strongRecOn with
  | ind i ih =>
    intro hi j
    induction j with
    | zero => intro _; rfl
    | succ j jh =>
      intro hj
      have jh := jh (by omega)
      have hp : (lvL l i).getD j 0 = (nlev (ann (l.take j)) (l.getD j g0) : Nat) := by
        rw [lvL_pre l (by omega)]
        exact ih j (by omega) (by omega) j (Nat.le_refl _)
      rw [lvTo, jh, hp, take_snoc (by omega), ann_snoc, nlev_snoc]
      split <;> simp
      omega
theorem lv_ann (l : List G) {i : Nat} (h : i < l.length) : ((lvL l l.length).getD i 0).toNat = nlev (ann (l.take i)) (l.getD i g0) := by
  rw [lvL_pre l h, lev_ann l i h i (Nat.le_refl _)]; simp
theorem row_ann (l : List G) (L : Nat) : ∀ k, k ≤ l.length → rowTo l (lvL l l.length) k L = rowA (ann (l.take k)) L
  | 0, _ => by simp [rowTo, ann, annR, rowA]
  | k + 1, h => by
    have ih := row_ann l L k (by omega)
    rw [rowTo, ih, lv_ann l (by omega), take_snoc (by omega), ann_snoc, rowA_append, rowA_cons]
    split <;> simp [rowA]
theorem cnt_ann (l : List G) : ∀ k, k ≤ l.length → cntTo (lvL l l.length) k = cntA (ann (l.take k))
  | 0, _ => by simp [cntTo, ann, annR, cntA]
  | k + 1, h => by
    rw [cntTo, cnt_ann l k (by omega), lv_ann l (by omega), take_snoc (by omega), ann_snoc, cntA_snoc]
theorem layL_ann (l : List G) : layL l = (List.range (cntA (ann l))).map fun L => sortG (rowA (ann l) L) := by
  rw [layL, tabTo, cnt_ann l _ (Nat.le_refl _), List.take_length, List.map_map]
  apply List.map_congr_left
  intro L _
  show sortG (rowTo l (lvL l l.length) l.length L) = _
  rw [row_ann l L _ (Nat.le_refl _), List.take_length]

/-- The free gates among the first k, and the others. -/
def frG (l : List G) : Nat → List G
  | 0 => []
  | k + 1 => if freeB l k then frG l k ++ [l.getD k g0] else frG l k
def nfG (l : List G) : Nat → List G
  | 0 => []
  | k + 1 => if freeB l k then nfG l k else nfG l k ++ [l.getD k g0]
theorem free_ann (l : List G) {i : Nat} (h : i < l.length) : freeB l i = true ↔ nlev (ann (l.take i)) (l.getD i g0) = 0 := by
  rw [← lvL_zero l h, ← lv_ann l h]
  have := (lvL_range l l.length i).1
  omega
theorem fr_ann (l : List G) : ∀ k, k ≤ l.length → frG l k = rowA (ann (l.take k)) 0 ∧ nfG l k = (decF (ann (l.take k))).map (·.1)
  | 0, _ => by simp [frG, nfG, ann, annR, rowA, decF]
  | k + 1, h => by
    obtain ⟨i1, i2⟩ := fr_ann l k (by omega)
    have hf := free_ann l (i := k) (by omega)
    rw [frG, nfG, i1, i2, take_snoc (by omega), ann_snoc, rowA_append, decF_append, rowA_cons, decF_cons]
    by_cases h0 : nlev (ann (l.take k)) (l.getD k g0) = 0
    · rw [if_pos (hf.2 h0), if_pos (hf.2 h0), if_pos h0, if_neg (by omega)]
      simp [rowA, decF]
    · rw [if_neg (fun e => h0 (hf.1 e)), if_neg (fun e => h0 (hf.1 e)), if_neg h0, if_pos (by omega)]
      simp [rowA, decF]
theorem nf_rest (l : List G) : nfG l l.length = restG l := by rw [(fr_ann l _ (Nat.le_refl _)).2, List.take_length]; rfl
theorem fr_row (l : List G) : frG l l.length = rowA (ann l) 0 := by rw [(fr_ann l _ (Nat.le_refl _)).1, List.take_length]
theorem fr_nf_len (l : List G) : ∀ k, (frG l k).length + (nfG l k).length = k
  | 0 => rfl
  | k + 1 => by
    have := fr_nf_len l k
    rw [frG, nfG]; split <;> simp <;> omega
theorem fr_pos {l : List G} (h : l ≠ []) : 0 < (frG l l.length).length := by
  have key : ∀ k, 0 < (frG l (k + 1)).length := by
    intro k
    induction k with
    | zero => rw [frG, freeB_zero]; simp [frG]
    | succ k ih =>
      rw [frG]; split
      · simp
      · exact ih
  have hp := List.length_pos_iff.2 h
  have := key (l.length - 1)
  rwa [show l.length - 1 + 1 = l.length by omega] at this
/-- The layers as the document takes them. -/
def rlay : Nat → List G → List (List G)
  | 0, _ => []
  | k + 1, l => if l = [] then [] else sortG (frG l l.length) :: rlay k (nfG l l.length)
theorem cntA_pos {l : List G} (h : l ≠ []) : 0 < cntA (ann l) := by
  rcases List.eq_nil_or_concat l with rfl | ⟨m, g, rfl⟩
  · exact absurd rfl h
  · have e2 : (m.concat g) = m ++ [g] := by simp
    rw [e2, ann_snoc, cntA_snoc]
    show 0 < max _ (_ + 1)
    omega
theorem rlay_lay : ∀ (k : Nat) (l : List G), l.length ≤ k → rlay k l = layL l
  | 0, l, h => by rw [List.length_eq_zero_iff.1 (by omega : l.length = 0)]; rfl
  | k + 1, l, h => by
    by_cases hl : l = []
    · subst hl; rfl
    · have h1 := fr_nf_len l l.length
      have h2 := fr_pos hl
      have ih := rlay_lay k (nfG l l.length) (by omega)
      have hc := cntA_pos hl
      obtain ⟨c, hce⟩ : ∃ c, cntA (ann l) = c + 1 := ⟨cntA (ann l) - 1, by omega⟩
      rw [rlay, if_neg hl, ih, layL_ann, layL_ann l, nf_rest, ann_rest _ l rfl, cntA_dec, hce, fr_row, Nat.add_sub_cancel, List.range_succ_eq_map, List.map_cons, List.map_map]
      congr 1
      apply List.map_congr_left
      intro L _
      show sortG (rowA (decF (ann l)) L) = sortG (rowA (ann l) (L + 1))
      rw [rowA_dec]

/-- The free gates first. -/
theorem nf_mem (l : List G) : ∀ k, k ≤ l.length → ∀ y ∈ nfG l k, ∃ j, j < k ∧ y = l.getD j g0
  | 0, _, y, h => by cases h
  | k + 1, hk, y, h => by
    have ih := nf_mem l k (by omega)
    rw [nfG] at h
    split at h
    · obtain ⟨j, hj, e⟩ := ih y h; exact ⟨j, by omega, e⟩
    · rcases List.mem_append.1 h with h | h
      · obtain ⟨j, hj, e⟩ := ih y h; exact ⟨j, by omega, e⟩
      · exact ⟨k, by omega, List.mem_singleton.1 h⟩
theorem fr_mem (l : List G) : ∀ k, k ≤ l.length → ∀ y ∈ frG l k, ∃ j, j < k ∧ y = l.getD j g0
  | 0, _, y, h => by cases h
  | k + 1, hk, y, h => by
    have ih := fr_mem l k (by omega)
    rw [frG] at h
    split at h
    · rcases List.mem_append.1 h with h | h
      · obtain ⟨j, hj, e⟩ := ih y h; exact ⟨j, by omega, e⟩
      · exact ⟨k, by omega, List.mem_singleton.1 h⟩
    · obtain ⟨j, hj, e⟩ := ih y h; exact ⟨j, by omega, e⟩
theorem fr_first (l : List G) : ∀ k, k ≤ l.length → alkL (l.take k) (frG l k ++ nfG l k)
  | 0, _ => by simp [frG, nfG]; exact alkL.refl _
  | k + 1, h => by
    have ih := fr_first l k (by omega)
    rw [take_snoc (by omega), frG, nfG]
    have h1 := alk_app_r ih [l.getD k g0]
    by_cases hf : freeB l k = true
    · rw [if_pos hf, if_pos hf]
      refine h1.trans ?_
      have hu : Unt (nfG l k) (l.getD k g0) := fun y hy => by
        obtain ⟨j, hj, rfl⟩ := nf_mem l k (by omega) y hy
        exact (freeB_iff l k).1 hf j hj
      have := (alk_last (p := frG l k) hu).symm
      simpa using this
    · rw [if_neg hf, if_neg hf]
      simpa using h1
theorem fr_apart (l : List G) : ∀ k, k ≤ l.length → (frG l k).Pairwise fun x y => tiedG x y = false
  | 0, _ => List.Pairwise.nil
  | k + 1, h => by
    have ih := fr_apart l k (by omega)
    rw [frG]
    split
    · rename_i hf
      rw [List.pairwise_append]
      refine ⟨ih, by simp, fun x hx y hy => ?_⟩
      obtain ⟨j, hj, rfl⟩ := fr_mem l k (by omega) x hx
      rw [List.mem_singleton.1 hy]
      exact (freeB_iff l k).1 hf j hj
    · exact ih
/-- Gates of which no two are tied may stand in any order. -/
theorem alk_of_perm {l m : List G} (hp : l.Pairwise fun x y => tiedG x y = false) (h : l.Perm m) : alkL l m := fun p q t => by
  have h1 : (prj p q l).Perm (prj p q m) := h.filter _
  have h2 : (prj p q l).Pairwise fun x y => tiedG x y = false := hp.filter _
  have h3 : ∀ x ∈ prj p q l, inPr p q x = true := fun x hx => (List.mem_filter.1 hx).2
  generalize prj p q l = a at *
  generalize prj p q m = b at *
  match a, h2, h3 with
  | [], _, _ => exact (List.Perm.nil_eq h1)
  | [x], _, _ => exact (List.singleton_perm.1 h1).symm ▸ rfl
  | x :: y :: r, h2, h3 =>
    have h4 := (List.pairwise_cons.1 h2).1 y (by simp)
    rw [inPr_tied t (h3 x (by simp)) (h3 y (by simp))] at h4
    cases h4
theorem sortG_perm (l : List G) : (sortG l).Perm l := List.mergeSort_perm _ _
theorem rlay_alk : ∀ (k : Nat) (l : List G), l.length ≤ k → alkL l (rlay k l).flatten
  | 0, l, h => by rw [List.length_eq_zero_iff.1 (by omega : l.length = 0)]; exact alkL.refl _
  | k + 1, l, h => by
    by_cases hl : l = []
    · subst hl; exact alkL.refl _
    · have h1 := fr_nf_len l l.length
      have h2 := fr_pos hl
      have ih := rlay_alk k (nfG l l.length) (by omega)
      have hf := fr_first l l.length (Nat.le_refl _)
      rw [List.take_length] at hf
      rw [rlay, if_neg hl, List.flatten_cons]
      exact hf.trans (alk_app (alk_of_perm (fr_apart l _ (Nat.le_refl _)) (sortG_perm _).symm) ih)
/-- The layers one after another are alike to the circuit. -/
theorem lay_alk (l : List G) : alkL l (layL l).flatten := by rw [← rlay_lay _ l (Nat.le_refl _)]; exact rlay_alk _ l (Nat.le_refl _)
end Go.Proofs.Yteoajadcdjaalaa
