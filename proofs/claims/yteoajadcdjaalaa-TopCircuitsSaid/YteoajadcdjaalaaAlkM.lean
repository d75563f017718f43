/- Mathematics of alike circuits: two circuits have the same name exactly if any two types that are tied have the same gates in the same order. -/
import Derived.Test.YteoajadcdjaalaaLayM
import Derived.Test.YteoajadcdjaalaaName
namespace Go.Proofs.Yteoajadcdjaalaa

def keyG (x : G) : Int × Int × Int := (x.1, x.2.1, x.2.2.1)
theorem typeG_iff (x y : G) : typeG x y = true ↔ keyG x = keyG y := by
  simp [typeG, typeB, keyG, and_assoc]
theorem meetB_symm (a b a' b' : Int) : meetB a b a' b' = meetB a' b' a b := by
  rw [Bool.eq_iff_iff]
  simp only [meetB, Bool.or_eq_true, Bool.and_eq_true, beq_iff_eq, bne_iff_ne, ne_eq]
  omega
theorem commG_symm (x y : G) : commG x y = commG y x := by
  unfold commG commB
  rw [meetB_symm]
  congr 1
  exact Bool.beq_comm
theorem tiedG_symm (x y : G) : tiedG x y = tiedG y x := by
  have h : typeG x y = typeG y x := by rw [Bool.eq_iff_iff, typeG_iff, typeG_iff]; exact eq_comm
  rw [tiedG, tiedG, commG_symm, h]
theorem commG_key {x x' y : G} (h : keyG x = keyG x') : commG x y = commG x' y := by
  simp only [keyG, Prod.mk.injEq] at h
  unfold commG
  rw [h.1, h.2.1, h.2.2]
theorem tiedG_key {x x' y : G} (h : keyG x = keyG x') : tiedG x y = tiedG x' y := by
  have h2 : typeG x y = typeG x' y := by rw [Bool.eq_iff_iff, typeG_iff, typeG_iff, h]
  rw [tiedG, tiedG, commG_key h, h2]
theorem tiedG_key' {x y y' : G} (h : keyG y = keyG y') : tiedG x y = tiedG x y' := by rw [tiedG_symm, tiedG_key h, tiedG_symm]
theorem tiedG_type {x y : G} (h : keyG x = keyG y) : tiedG x y = true := by
  rw [tiedG, (typeG_iff x y).2 h]; rfl

/-- The gates of two types. -/
def inPr (x y g : G) : Bool := decide (keyG g = keyG x) || decide (keyG g = keyG y)
def prj (x y : G) (l : List G) : List G := l.filter (inPr x y)
def alkL (c d : List G) : Prop := ∀ x y, tiedG x y = true → prj x y c = prj x y d
theorem alkL.refl (c : List G) : alkL c c := fun _ _ _ => rfl
theorem alkL.symm {c d : List G} (h : alkL c d) : alkL d c := fun x y t => (h x y t).symm
theorem alkL.trans {c d e : List G} (h : alkL c d) (k : alkL d e) : alkL c e := fun x y t => (h x y t).trans (k x y t)
theorem inPr_iff (x y g : G) : inPr x y g = true ↔ keyG g = keyG x ∨ keyG g = keyG y := by simp [inPr]
/-- Any two gates of two tied types are tied. -/
theorem inPr_tied {x y g h : G} (t : tiedG x y = true) (hg : inPr x y g = true) (hh : inPr x y h = true) : tiedG g h = true := by
  rw [inPr_iff] at hg hh
  rcases hg with hg | hg <;> rcases hh with hh | hh
  · exact tiedG_type (hg.trans hh.symm)
  · rw [tiedG_key hg, tiedG_key' hh]; exact t
  · rw [tiedG_key hg, tiedG_key' hh, tiedG_symm]; exact t
  · exact tiedG_type (hg.trans hh.symm)

/-- The gate i is tied to none before it. -/
def freeB (l : List G) (i : Nat) : Bool := (List.range i).all fun j => !tiedG (l.getD j g0) (l.getD i g0)
theorem freeB_iff (l : List G) (i : Nat) : freeB l i = true ↔ ∀ j, j < i → tiedG (l.getD j g0) (l.getD i g0) = false := by simp [freeB]
theorem freeB_zero (l : List G) : freeB l 0 = true := by simp [freeB]
/-- The place of the smallest free gate among the first m + 1. -/
def bstTo (l : List G) : Nat → Nat
  | 0 => 0
  | m + 1 => if ltG (l.getD (m + 1) g0) (l.getD (bstTo l m) g0) && freeB l (m + 1) then m + 1 else bstTo l m
def bstL (l : List G) : Nat := bstTo l (l.length - 1)
theorem bstTo_le (l : List G) : ∀ m, bstTo l m ≤ m
  | 0 => Nat.le_refl _
  | m + 1 => by
    have := bstTo_le l m
    rw [bstTo]; split <;> omega
theorem bstTo_free (l : List G) : ∀ m, freeB l (bstTo l m) = true
  | 0 => freeB_zero l
  | m + 1 => by
    rw [bstTo]; split
    · rename_i h; simp only [Bool.and_eq_true] at h; exact h.2
    · exact bstTo_free l m
theorem ltG_trans {x y z : G} (h1 : ltG x y = true) (h2 : ltG y z = true) : ltG x z = true := swoG.trans x y z h1 h2
theorem bstTo_min (l : List G) : ∀ m i, i ≤ m → freeB l i = true → ltG (l.getD i g0) (l.getD (bstTo l m) g0) = false
  | 0, i, hi, _ => by
    obtain rfl : i = 0 := by omega
    exact swoG.irrefl _
  | m + 1, i, hi, hf => by
    have ih := bstTo_min l m
    rw [bstTo]
    by_cases h : i = m + 1
    · subst h
      split
      · exact swoG.irrefl _
      · rename_i hn; rw [hf] at hn; simpa using hn
    · have h' := ih i (by omega) hf
      split
      · rename_i hn
        simp only [Bool.and_eq_true] at hn
        cases hq : ltG (l.getD i g0) (l.getD (m + 1) g0) with
        | false => rfl
        | true => exact absurd (ltG_trans hq hn.1) (by rw [h']; decide)
      · exact h'
theorem bstL_lt {l : List G} (h : l ≠ []) : bstL l < l.length := by
  have := bstTo_le l (l.length - 1)
  have := List.length_pos_iff.2 h
  unfold bstL; omega

/-- The name: the smallest free gate, and then the name of the others. -/
def nmTo : Nat → List G → List G
  | 0, _ => []
  | k + 1, l => l.getD (bstL l) g0 :: nmTo k (l.eraseIdx (bstL l))

/-- A free gate may come first. -/
theorem prj_front {l : List G} {i : Nat} (hi : i < l.length) (hf : freeB l i = true) {x y : G} (t : tiedG x y = true) : prj x y l = prj x y (l.getD i g0 :: l.eraseIdx i) := by
  have hx : l.getD i g0 = l[i] := by simp [hi]
  have hl : l = l.take i ++ l[i] :: l.drop (i + 1) := by rw [← List.drop_eq_getElem_cons hi]; exact (List.take_append_drop i l).symm
  have he : l.eraseIdx i = l.take i ++ l.drop (i + 1) := List.eraseIdx_eq_take_drop_succ l i
  rw [freeB_iff, hx] at hf
  rw [he, hx]
  conv => lhs; rw [hl]
  unfold prj
  rw [List.filter_append, List.filter_cons, List.filter_cons, List.filter_append]
  cases hp : inPr x y l[i] with
  | false => simp
  | true =>
    have hz : (l.take i).filter (inPr x y) = [] := by
      rw [List.filter_eq_nil_iff]
      intro g hg hgp
      obtain ⟨j, hj, rfl⟩ := List.mem_iff_getElem.1 hg
      have hji : j < i := by simp at hj; omega
      have h1 := hf j hji
      rw [List.getElem_take] at hgp
      have h2 : l.getD j g0 = l[j] := by simp [show j < l.length by omega]
      rw [h2, inPr_tied t hgp hp] at h1
      cases h1
    rw [hz]; simp
theorem alk_front {l : List G} {i : Nat} (hi : i < l.length) (hf : freeB l i = true) : alkL l (l.getD i g0 :: l.eraseIdx i) := fun _ _ t => prj_front hi hf t
theorem prj_cons (x y g : G) (l : List G) : prj x y (g :: l) = if inPr x y g then g :: prj x y l else prj x y l := by
  unfold prj; rw [List.filter_cons]
theorem alk_cons (g : G) {c d : List G} : alkL (g :: c) (g :: d) ↔ alkL c d := by
  constructor
  · intro h x y t
    have := h x y t
    rw [prj_cons, prj_cons] at this
    split at this
    · exact (List.cons.inj this).2
    · exact this
  · intro h x y t
    rw [prj_cons, prj_cons, h x y t]
theorem alk_nil {d : List G} (h : alkL [] d) : d = [] := by
  cases d with
  | nil => rfl
  | cons g t =>
    have := h g g (tiedG_type rfl)
    rw [prj_cons, if_pos (by simp [inPr])] at this
    cases this
theorem alk_nm : ∀ (k : Nat) (l : List G), l.length = k → alkL l (nmTo k l)
  | 0, l, h => by rw [List.length_eq_zero_iff.1 h]; exact alkL.refl _
  | k + 1, l, h => by
    have hne : l ≠ [] := by rintro rfl; simp at h
    have hb := bstL_lt hne
    have h1 := alk_front hb (bstTo_free l _)
    refine h1.trans ?_
    rw [nmTo, alk_cons]
    exact alk_nm k _ (by rw [List.length_eraseIdx]; simp [hb]; omega)

/-- A free gate of c is a free gate of each circuit that is alike. -/
theorem alk_free {c d : List G} (h : alkL c d) {i : Nat} (hi : i < c.length) (hf : freeB c i = true) : ∃ j, j < d.length ∧ freeB d j = true ∧ d.getD j g0 = c.getD i g0 := by
  obtain ⟨x, hx⟩ : ∃ x, x = c.getD i g0 := ⟨_, rfl⟩
  have h1 := (alk_front hi hf).symm.trans h
  rw [← hx] at h1 ⊢
  have hp := h1 x x (tiedG_type rfl)
  rw [prj_cons, if_pos (by simp [inPr])] at hp
  -- the first gate of x's type in d
  have hmem : x ∈ prj x x d := by rw [← hp]; simp
  obtain ⟨pre, suf, hd, hx1, hpre⟩ : ∃ pre suf, d = pre ++ x :: suf ∧ True ∧ ∀ g ∈ pre, keyG g ≠ keyG x := by
    have key : ∀ (d t : List G), x :: t = prj x x d → ∃ pre suf, d = pre ++ x :: suf ∧ True ∧ ∀ g ∈ pre, keyG g ≠ keyG x := by
      intro d
      induction d with
      | nil => intro t h; cases h
      | cons g d ih =>
        intro t ht
        rw [prj_cons] at ht
        by_cases hg : inPr x x g = true
        · rw [if_pos hg] at ht
          obtain ⟨h1, _⟩ := List.cons.inj ht
          exact ⟨[], d, by rw [h1]; rfl, trivial, by simp⟩
        · rw [if_neg hg] at ht
          obtain ⟨pre, suf, h1, _, h2⟩ := ih t ht
          refine ⟨g :: pre, suf, by rw [h1]; rfl, trivial, ?_⟩
          intro g' hg'
          rcases List.mem_cons.1 hg' with rfl | h'
          · intro e; exact hg (by simp [inPr, e])
          · exact h2 g' h'
    exact key d _ hp
  refine ⟨pre.length, by rw [hd]; simp, ?_, by rw [hd]; simp⟩
  rw [freeB_iff]
  intro j hj
  have e1 : d.getD pre.length g0 = x := by rw [hd]; simp
  have e2 : d.getD j g0 = pre[j] := by rw [hd]; simp [List.getElem?_append_left hj, hj]
  rw [e1, e2]
  cases ht : tiedG pre[j] x with
  | false => rfl
  | true =>
    exfalso
    have hq := h1 x pre[j] (by rw [tiedG_symm]; exact ht)
    rw [prj_cons, if_pos (by simp [inPr]), hd] at hq
    -- the first one in d is not of x's type
    have key : ∀ (p s : List G), (∀ g ∈ p, keyG g ≠ keyG x) → (∃ g ∈ p, keyG g = keyG pre[j]) → ∃ g t, prj x pre[j] (p ++ s) = g :: t ∧ keyG g ≠ keyG x := by
      intro p s
      induction p with
      | nil => rintro _ ⟨g, hg, _⟩; cases hg
      | cons g p ih =>
        intro hn ⟨g', hg', hk⟩
        rw [List.cons_append, prj_cons]
        by_cases hg : inPr x pre[j] g = true
        · rw [if_pos hg]; exact ⟨g, _, rfl, hn g (by simp)⟩
        · rw [if_neg hg]
          refine ih (fun g'' h'' => hn g'' (by simp [h''])) ?_
          rcases List.mem_cons.1 hg' with rfl | h'
          · exact absurd (by rw [inPr_iff]; exact .inr hk) hg
          · exact ⟨g', h', hk⟩
    obtain ⟨g, t, hgt, hgx⟩ := key pre (x :: suf) hpre ⟨pre[j], List.getElem_mem hj, rfl⟩
    rw [hgt] at hq
    exact hgx (by rw [← (List.cons.inj hq).1])
theorem alk_best {c d : List G} (h : alkL c d) (hc : c ≠ []) : d ≠ [] ∧ c.getD (bstL c) g0 = d.getD (bstL d) g0 ∧ alkL (c.eraseIdx (bstL c)) (d.eraseIdx (bstL d)) := by
  have hb := bstL_lt hc
  have hd : d ≠ [] := by
    rintro rfl
    exact hc (alk_nil h.symm)
  have hb' := bstL_lt hd
  obtain ⟨j, hj, hf, he⟩ := alk_free h hb (bstTo_free c _)
  obtain ⟨i, hi, hf', he'⟩ := alk_free h.symm hb' (bstTo_free d _)
  have m1 := bstTo_min d (d.length - 1) j (by omega) hf
  have m2 := bstTo_min c (c.length - 1) i (by omega) hf'
  rw [he] at m1
  rw [he'] at m2
  have e : c.getD (bstL c) g0 = d.getD (bstL d) g0 := ltG_eq _ _ m1 m2
  refine ⟨hd, e, ?_⟩
  have h1 := ((alk_front hb (bstTo_free c _)).symm.trans h).trans (alk_front hb' (bstTo_free d _))
  rw [e, alk_cons] at h1
  exact h1
theorem nm_alk : ∀ (k : Nat) (c d : List G), c.length = k → alkL c d → d.length = k ∧ nmTo k c = nmTo k d
  | 0, c, d, hk, h => by
    have hc := List.length_eq_zero_iff.1 hk
    subst hc
    rw [alk_nil h]; exact ⟨rfl, rfl⟩
  | k + 1, c, d, hk, h => by
    have hc : c ≠ [] := by rintro rfl; simp at hk
    obtain ⟨hd, he, ha⟩ := alk_best h hc
    have hb := bstL_lt hc
    have hb' := bstL_lt hd
    obtain ⟨h1, h2⟩ := nm_alk k _ _ (by rw [List.length_eraseIdx]; simp [hb]; omega) ha
    rw [List.length_eraseIdx, if_pos hb'] at h1
    exact ⟨by omega, by rw [nmTo, nmTo, he, h2]⟩

/-- Package circuit's name. -/
theorem bestL_bst (l : List G) (nx m : Nat) (h : nx + m < l.length) : bestL l nx m = nx + bstTo (l.drop nx) m := by
  have hd : ∀ q, (l.drop nx).getD q g0 = l.getD (nx + q) g0 := fun q => by simp [List.getElem?_drop]
  induction m with
  | zero => rfl
  | succ m ih =>
    have ih := ih (by omega)
    rw [bestL, bstTo, ih, hd, hd, show nx + (m + 1) = nx + 1 + m by omega]
    have hn : noTieTo l nx (nx + 1 + m) (m + 1) = freeB (l.drop nx) (m + 1) := by
      rw [noTieTo, freeB]
      simp only [hd, show nx + (m + 1) = nx + 1 + m by omega]
    rw [hn]
    have hlt : ltG (l.getD (nx + 1 + m) g0) (l.getD (nx + bstTo (l.drop nx) m) g0) = !decide (0 ≤ cmpGG (l.getD (nx + 1 + m) g0) (l.getD (nx + bstTo (l.drop nx) m) g0)) := by
      unfold ltG
      generalize cmpGG (l.getD (nx + 1 + m) g0) (l.getD (nx + bstTo (l.drop nx) m) g0) = z
      by_cases h : 0 ≤ z
      · rw [decide_eq_true h, decide_eq_false (by omega)]; rfl
      · rw [decide_eq_false h, decide_eq_true (by omega)]; rfl
    rw [hlt]
    generalize cmpGG (l.getD (nx + 1 + m) g0) (l.getD (nx + bstTo (l.drop nx) m) g0) = z
    generalize freeB (l.drop nx) (m + 1) = f
    by_cases h0 : 0 ≤ z
    · rw [if_pos h0, decide_eq_true h0]; rfl
    · rw [if_neg h0, decide_eq_false h0]
      cases f
      · rfl
      · show nx + 1 + m = nx + (m + 1)
        omega
theorem smallestL_bst {l : List G} {nx : Nat} (h : nx < l.length) : smallestL l nx = nx + bstL (l.drop nx) := by
  rw [smallestL, bestL_bst l nx _ (by omega), bstL, List.length_drop]
  congr 2; omega
theorem takeL_eq {l : List G} {nx p : Nat} (h1 : nx ≤ p) (h2 : p < l.length) : takeL l nx p = l.take nx ++ l.getD p g0 :: (l.drop nx).eraseIdx (p - nx) := by
  have ha : l.take (nx + 1) = l.take nx ++ [l.getD nx g0] := by
    rw [List.take_succ_eq_append_getElem (by omega)]; simp [show nx < l.length by omega]
  rw [takeL, shiftL, ha, List.eraseIdx_eq_take_drop_succ, List.append_assoc, List.append_assoc, List.set_append_right _ _ (by simp; omega), List.length_take, Nat.min_eq_left (by omega), Nat.sub_self]
  simp only [List.cons_append, List.nil_append, List.set_cons_zero, List.drop_drop]
  rw [show nx + (p - nx + 1) = p + 1 by omega]
theorem nameTo_nm (l : List G) : ∀ k, k ≤ l.length → ∃ p, (nameTo l k).take k = p ∧ p.length = k ∧ nmTo l.length l = p ++ nmTo (l.length - k) ((nameTo l k).drop k)
  | 0, _ => ⟨[], by simp, rfl, by simp [nameTo]⟩
  | k + 1, h => by
    obtain ⟨p, hp, hpl, hn⟩ := nameTo_nm l k (by omega)
    have hlen := nameTo_len l k (by omega)
    obtain ⟨m, hm⟩ : ∃ m, m = nameTo l k := ⟨_, rfl⟩
    rw [← hm] at hp hn hlen
    have hkm : k < m.length := by omega
    have hs := smallestL_lt (l := m) (nx := k) hkm
    have hb := smallestL_bst (l := m) (nx := k) hkm
    have ht := takeL_eq hs.1 hs.2
    rw [hp, hb] at ht
    have hg : m.getD (k + bstL (m.drop k)) g0 = (m.drop k).getD (bstL (m.drop k)) g0 := by simp [List.getElem?_drop]
    rw [hg, show k + bstL (m.drop k) - k = bstL (m.drop k) by omega] at ht
    refine ⟨p ++ [(m.drop k).getD (bstL (m.drop k)) g0], ?_, by simp [hpl], ?_⟩
    · rw [nameTo, ← hm, hb, ht, List.take_append, hpl, List.take_of_length_le (by omega), show k + 1 - k = 1 by omega]; rfl
    · rw [hn, show l.length - k = (l.length - (k + 1)) + 1 by omega, nmTo, nameTo, ← hm, hb, ht, List.drop_append, hpl, List.drop_of_length_le (l := p) (by omega), show k + 1 - k = 1 by omega]
      simp
theorem nameL_nm (l : List G) : nameL l = nmTo l.length l := by
  obtain ⟨p, hp, hpl, hn⟩ := nameTo_nm l l.length (Nat.le_refl _)
  have hlen := nameTo_len l l.length (Nat.le_refl _)
  rw [hn, Nat.sub_self, nmTo, List.append_nil, ← hp, List.take_of_length_le (by omega)]
  rfl
/-- THE THEOREM: alike circuits have the same name, and only these. -/
theorem alk_iff (c d : List G) : alkL c d ↔ nameL c = nameL d := by
  rw [nameL_nm, nameL_nm]
  constructor
  · intro h
    obtain ⟨h1, h2⟩ := nm_alk c.length c d rfl h
    rw [h2, h1]
  · intro h
    exact ((alk_nm c.length c rfl).trans (by rw [h]; exact alkL.refl _)).trans (alk_nm d.length d rfl).symm
theorem alk_name (c : List G) : alkL c (nameL c) := by rw [nameL_nm]; exact alk_nm _ c rfl
theorem nameL_idem (c : List G) : nameL (nameL c) = nameL c := ((alk_iff _ _).1 (alk_name c)).symm
end Go.Proofs.Yteoajadcdjaalaa
