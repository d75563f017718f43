/- Plans of heats: the heat of an ion, the gates that are too hot, coolings as few as possible, windows. Lists and numbers alone. -/
namespace Go.Proofs.Ytlhnbknilcmleaa

/-- Three numbers: of an act its kind, ion and heat; of a window its ion, first and last act. -/
abbrev T3 := Int × Int × Int
def t0 : T3 := (0, 0, 0)

theorem foldl_take {β : Type} (f : β → T3 → β) (s : β) {l : List T3} {k : Nat} (h : k < l.length) : (l.take (k + 1)).foldl f s = f ((l.take k).foldl f s) (l.getD k t0) := by
  rw [List.take_succ_eq_append_getElem h, List.foldl_append]; simp [h]
theorem getD_mem {l : List T3} {k : Nat} (h : k < l.length) : l.getD k t0 ∈ l := by simp [h]
theorem all_take {f : T3 → Bool} {p : List T3} {k : Nat} (h : k < p.length) : (p.take (k + 1)).all f = ((p.take k).all f && f (p.getD k t0)) := by
  rw [List.take_succ_eq_append_getElem h, List.all_append]; simp [h]
theorem all_no {f : T3 → Bool} {p : List T3} {k : Nat} (h : k < p.length) (hf : f (p.getD k t0) = false) : p.all f = false := by
  rw [List.all_eq_false]
  exact ⟨p[k], List.getElem_mem h, by simp [h] at hf; simp [hf]⟩

def inB (n lo hi : Int) : Bool := decide (lo ≤ n) && decide (n ≤ hi)
theorem inB_z {n lo hi : Int} : inB n lo hi = true ↔ lo ≤ n ∧ n ≤ hi := by simp [inB]
theorem inB_no {n lo hi : Int} : inB n lo hi = false ↔ ¬ (lo ≤ n ∧ n ≤ hi) := by rw [← inB_z]; simp
/-- An act of n ions. -/
def actB (n : Int) (a : T3) : Bool := inB a.1 0 2 && inB a.2.1 0 (n - 1) && inB a.2.2 0 100 && (a.1 != 2 || a.2.2 == 0)
def actsE (n : Int) (l : List T3) : Int := if l.all (actB n) then 0 else 1
def validE (n : Int) (l : List T3) : Int := if inB n 1 4 then (if l.length ≤ 20 then actsE n l else 3) else 1
def limE (n : Int) (l : List T3) (lim : Int) : Int := if validE n l = 0 then (if inB lim 0 100 then 0 else 1) else validE n l

/-- What an act of four ions is. -/
structure Act4 (a : T3) : Prop where
  k0 : 0 ≤ a.1
  k2 : a.1 ≤ 2
  i0 : 0 ≤ a.2.1
  i3 : a.2.1 ≤ 3
  h0 : 0 ≤ a.2.2
  h1 : a.2.2 ≤ 100
  hc : a.1 = 2 → a.2.2 = 0
theorem actB_act4 {n : Int} {a : T3} (hn : n ≤ 4) (h : actB n a = true) : Act4 a := by
  simp only [actB, Bool.and_eq_true, Bool.or_eq_true, inB_z, bne_iff_ne, beq_iff_eq] at h
  obtain ⟨⟨⟨h1, h2⟩, h3⟩, h4⟩ := h
  exact ⟨h1.1, h1.2, h2.1, by omega, h3.1, h3.2, fun e => by rcases h4 with h | h; exact absurd e h; exact h⟩
def Acts (l : List T3) : Prop := ∀ a ∈ l, Act4 a
theorem Acts.get {l : List T3} (h : Acts l) {k : Nat} (hk : k < l.length) : Act4 (l.getD k t0) := h _ (getD_mem hk)
theorem Acts.take {l : List T3} (h : Acts l) (k : Nat) : Acts (l.take k) := fun a ha => h a (List.mem_of_mem_take ha)
theorem Acts.drop {l : List T3} (h : Acts l) (k : Nat) : Acts (l.drop k) := fun a ha => h a (List.mem_of_mem_drop ha)
theorem Acts.app {l m : List T3} (h : Acts l) (h' : Acts m) : Acts (l ++ m) := fun a ha => by rcases List.mem_append.1 ha with x | x; exact h a x; exact h' a x
theorem Acts.left {l m : List T3} (h : Acts (l ++ m)) : Acts l := fun a ha => h a (List.mem_append.2 (.inl ha))
theorem Acts.right {l m : List T3} (h : Acts (l ++ m)) : Acts m := fun a ha => h a (List.mem_append.2 (.inr ha))
theorem act_cool {ion : Int} (h0 : 0 ≤ ion) (h3 : ion ≤ 3) : Act4 (2, ion, 0) := ⟨by simp, by simp, h0, h3, by simp, by simp, fun _ => rfl⟩
theorem acts_one {a : T3} (h : Act4 a) : Acts [a] := fun b hb => by rw [List.mem_singleton.1 hb]; exact h
theorem actsE_zero {n : Int} {l : List T3} : actsE n l = 0 ↔ l.all (actB n) = true := by unfold actsE; split <;> simp_all
theorem validE_zero {n : Int} {l : List T3} : validE n l = 0 ↔ (1 ≤ n ∧ n ≤ 4) ∧ l.length ≤ 20 ∧ l.all (actB n) = true := by
  unfold validE
  by_cases h : inB n 1 4 = true
  · rw [if_pos h]
    by_cases h2 : l.length ≤ 20
    · rw [if_pos h2, actsE_zero]; exact ⟨fun x => ⟨inB_z.1 h, h2, x⟩, fun x => x.2.2⟩
    · rw [if_neg h2]; exact ⟨fun x => (by cases x), fun x => absurd x.2.1 h2⟩
  · rw [if_neg h]; exact ⟨fun x => (by cases x), fun x => absurd (inB_z.2 x.1) h⟩
theorem all_acts {n : Int} {l : List T3} (hn : n ≤ 4) (h : l.all (actB n) = true) : Acts l := fun a ha => actB_act4 hn (List.all_eq_true.1 h a ha)
theorem validE_acts {n : Int} {l : List T3} (h : validE n l = 0) : Acts l := by
  obtain ⟨h1, _, h3⟩ := validE_zero.1 h
  exact all_acts h1.2 h3
theorem limE_zero {n : Int} {l : List T3} {lim : Int} : limE n l lim = 0 ↔ validE n l = 0 ∧ 0 ≤ lim ∧ lim ≤ 100 := by
  unfold limE
  by_cases h : validE n l = 0
  · rw [if_pos h]
    by_cases h2 : inB lim 0 100 = true
    · rw [if_pos h2]; exact ⟨fun _ => ⟨h, inB_z.1 h2⟩, fun _ => rfl⟩
    · rw [if_neg h2]; exact ⟨fun x => (by cases x), fun x => absurd (inB_z.2 x.2) h2⟩
  · rw [if_neg h]; exact ⟨fun x => absurd x h, fun x => absurd x.1 h⟩

/-- The heat of an ion behind acts. -/
def hstep (ion : Int) (h : Int) (a : T3) : Int := if a.2.1 = ion then (if a.1 = 2 then 0 else h + a.2.2) else h
def heatO (l : List T3) (ion : Int) : Int := l.foldl (hstep ion) 0
theorem heatO_succ {l : List T3} {k : Nat} (ion : Int) (h : k < l.length) : heatO (l.take (k + 1)) ion = hstep ion (heatO (l.take k) ion) (l.getD k t0) := foldl_take _ _ h
theorem heatO_snoc (l : List T3) (a : T3) (ion : Int) : heatO (l ++ [a]) ion = hstep ion (heatO l ion) a := by simp [heatO]
theorem hfold_range {l : List T3} (ha : Acts l) (ion : Int) : ∀ h, 0 ≤ h → 0 ≤ l.foldl (hstep ion) h ∧ l.foldl (hstep ion) h ≤ h + 100 * l.length := by
  induction l with
  | nil => intro h hh; simpa using hh
  | cons a t ih =>
    intro h hh
    have h4 := ha a (by simp)
    have hb := h4.h0
    have hb1 := h4.h1
    have hs : 0 ≤ hstep ion h a ∧ hstep ion h a ≤ h + 100 := by
      unfold hstep; split
      · split <;> omega
      · omega
    have := ih (fun x hx => ha x (by simp [hx])) _ hs.1
    simp only [List.foldl_cons, List.length_cons]
    omega
theorem heatO_range {l : List T3} (ha : Acts l) (ion : Int) : 0 ≤ heatO l ion ∧ heatO l ion ≤ 100 * l.length := by
  have := hfold_range ha ion 0 (by omega)
  rw [heatO]; omega

/-- The numbers of the gates that are too hot, among the first k acts. -/
def isHot (lim : Int) (l : List T3) (k : Nat) : Bool := (l.getD k t0).1 == 1 && decide (lim < heatO (l.take k) (l.getD k t0).2.1)
def hotTo (lim : Int) (l : List T3) : Nat → List Int
  | 0 => []
  | k + 1 => if isHot lim l k then hotTo lim l k ++ [(k : Int)] else hotTo lim l k
def hotL (lim : Int) (l : List T3) : List Int := hotTo lim l l.length
theorem hotTo_len (lim : Int) (l : List T3) : ∀ k, (hotTo lim l k).length ≤ k
  | 0 => by simp [hotTo]
  | k + 1 => by
    have := hotTo_len lim l k
    rw [hotTo]; split
    · simp; omega
    · omega
theorem hotTo_nil (lim : Int) (l : List T3) : ∀ k, hotTo lim l k = [] ↔ ∀ j, j < k → isHot lim l j = false
  | 0 => by simp [hotTo]
  | k + 1 => by
    rw [hotTo]
    by_cases h : isHot lim l k = true
    · rw [if_pos h]
      constructor
      · intro e; simp at e
      · intro e; rw [e k (by omega)] at h; cases h
    · rw [if_neg h, hotTo_nil lim l k]
      constructor
      · intro e j hj
        rcases Nat.lt_or_ge j k with x | x
        · exact e j x
        · obtain rfl : j = k := by omega
          simpa using h
      · intro e j hj; exact e j (by omega)
/-- The first gate that is too hot. -/
theorem hotTo_first (lim : Int) (l : List T3) : ∀ k x t, hotTo lim l k = x :: t → ∃ i : Nat, x = (i : Int) ∧ i < k ∧ isHot lim l i = true ∧ ∀ j, j < i → isHot lim l j = false
  | 0, _, _, h => by simp [hotTo] at h
  | k + 1, x, t, h => by
    rw [hotTo] at h
    by_cases hk : isHot lim l k = true
    · rw [if_pos hk] at h
      cases hp : hotTo lim l k with
      | nil =>
        rw [hp] at h
        simp at h
        exact ⟨k, h.1.symm, by omega, hk, (hotTo_nil lim l k).1 hp⟩
      | cons y s =>
        rw [hp] at h
        simp at h
        obtain ⟨i, e, hi, h1, h2⟩ := hotTo_first lim l k y s hp
        exact ⟨i, by rw [← h.1, e], by omega, h1, h2⟩
    · rw [if_neg hk] at h
      obtain ⟨i, e, hi, h1, h2⟩ := hotTo_first lim l k x t h
      exact ⟨i, e, by omega, h1, h2⟩

/-- Coolings as few as possible, of one ion: how many, and the heat. -/
def gstep (lim ion : Int) (s : Nat × Int) (a : T3) : Nat × Int :=
  if a.2.1 = ion then (if a.1 = 2 then (s.1, 0) else if a.1 = 1 ∧ lim < s.2 then (s.1 + 1, a.2.2) else (s.1, s.2 + a.2.2)) else s
def gr (lim : Int) (l : List T3) (ion : Int) : Nat × Int := l.foldl (gstep lim ion) (0, 0)
def few1 (lim : Int) (l : List T3) (ion : Int) : Nat := (gr lim l ion).1
def few (lim : Int) (l : List T3) : Nat := few1 lim l 0 + few1 lim l 1 + few1 lim l 2 + few1 lim l 3
theorem gr_succ {lim : Int} {l : List T3} {k : Nat} (ion : Int) (h : k < l.length) : gr lim (l.take (k + 1)) ion = gstep lim ion (gr lim (l.take k) ion) (l.getD k t0) := foldl_take _ _ h
theorem gr_snoc (lim : Int) (l : List T3) (a : T3) (ion : Int) : gr lim (l ++ [a]) ion = gstep lim ion (gr lim l ion) a := by simp [gr]
theorem gstep_add (lim ion : Int) (c d : Nat) (h : Int) (a : T3) : gstep lim ion (c + d, h) a = ((gstep lim ion (c, h) a).1 + d, (gstep lim ion (c, h) a).2) := by
  unfold gstep
  split
  · split
    · rfl
    · split
      · simp; omega
      · rfl
  · rfl
theorem gfold_add (lim ion : Int) (d : Nat) (l : List T3) : ∀ (c : Nat) (h : Int), l.foldl (gstep lim ion) (c + d, h) = ((l.foldl (gstep lim ion) (c, h)).1 + d, (l.foldl (gstep lim ion) (c, h)).2) := by
  induction l with
  | nil => intro c h; rfl
  | cons a t ih =>
    intro c h
    simp only [List.foldl_cons]
    rw [gstep_add]
    exact ih _ _
theorem gfold_mono (lim ion : Int) (l : List T3) : ∀ (s : Nat × Int), s.1 ≤ (l.foldl (gstep lim ion) s).1 := by
  induction l with
  | nil => intro s; exact Nat.le_refl _
  | cons a t ih =>
    intro s
    have h1 : s.1 ≤ (gstep lim ion s a).1 := by
      unfold gstep
      split
      · split
        · exact Nat.le_refl _
        · split
          · simp
          · exact Nat.le_refl _
      · exact Nat.le_refl _
    exact Nat.le_trans h1 (ih _)
theorem gfold_range {l : List T3} (ha : Acts l) (lim ion : Int) : ∀ (s : Nat × Int), 0 ≤ s.2 → 0 ≤ (l.foldl (gstep lim ion) s).2 ∧ (l.foldl (gstep lim ion) s).2 ≤ s.2 + 100 * l.length ∧ (l.foldl (gstep lim ion) s).1 ≤ s.1 + l.length := by
  induction l with
  | nil => intro s h; simpa using h
  | cons a t ih =>
    intro s h
    have h4 := ha a (by simp)
    have hb := h4.h0
    have hb1 := h4.h1
    have h1 : 0 ≤ (gstep lim ion s a).2 ∧ (gstep lim ion s a).2 ≤ s.2 + 100 ∧ (gstep lim ion s a).1 ≤ s.1 + 1 := by
      unfold gstep
      split
      · split
        · simp; omega
        · split
          · simp; omega
          · simp; omega
      · omega
    have := ih (fun x hx => ha x (by simp [hx])) _ h1.1
    simp only [List.foldl_cons, List.length_cons]
    omega
theorem gr_range {l : List T3} (ha : Acts l) (lim ion : Int) : 0 ≤ (gr lim l ion).2 ∧ (gr lim l ion).2 ≤ 100 * l.length ∧ (gr lim l ion).1 ≤ l.length := by
  have := gfold_range ha lim ion (0, 0) (by simp)
  rw [gr]; simpa using this
/-- Is a cooling wanted just before the act k? -/
def trig (lim : Int) (l : List T3) (k : Nat) : Bool := (l.getD k t0).1 == 1 && decide (lim < (gr lim (l.take k) (l.getD k t0).2.1).2)
/-- Joins change one count alone. -/
theorem few_snoc {lim : Int} {l : List T3} {a : T3} (ha : Act4 a) : few lim (l ++ [a]) = few lim l + (if a.1 = 1 ∧ lim < (gr lim l a.2.1).2 then 1 else 0) := by
  have h1 : ∀ ion, few1 lim (l ++ [a]) ion = few1 lim l ion + (if a.2.1 = ion ∧ a.1 = 1 ∧ lim < (gr lim l ion).2 then 1 else 0) := by
    intro ion
    rw [few1, gr_snoc, few1]
    unfold gstep
    by_cases h : a.2.1 = ion
    · by_cases h2 : a.1 = 2
      · simp [h, h2]
      · by_cases h3 : a.1 = 1 ∧ lim < (gr lim l ion).2
        · simp [h, h3]
        · rw [if_pos h, if_neg h2, if_neg h3, if_neg (fun x => h3 x.2)]; rfl
    · simp [h]
  rw [few, h1, h1, h1, h1, few]
  have i0 := ha.i0
  have i3 := ha.i3
  rcases (show a.2.1 = 0 ∨ a.2.1 = 1 ∨ a.2.1 = 2 ∨ a.2.1 = 3 by omega) with e | e | e | e
  all_goals
    simp only [e]
    simp
    try omega
theorem few_take {lim : Int} {l : List T3} (ha : Acts l) {k : Nat} (h : k < l.length) : few lim (l.take (k + 1)) = few lim (l.take k) + (if trig lim l k then 1 else 0) := by
  rw [List.take_succ_eq_append_getElem h]
  have e : l[k] = l.getD k t0 := by simp [h]
  rw [e, few_snoc (ha.get h)]
  congr 1
  simp only [trig, Bool.and_eq_true, beq_iff_eq, decide_eq_true_eq]
theorem few_nil (lim : Int) : few lim [] = 0 := rfl
theorem few_len {lim : Int} {l : List T3} (ha : Acts l) : ∀ k, k ≤ l.length → few lim (l.take k) ≤ k
  | 0, _ => by simp [few, few1, gr]
  | k + 1, h => by
    have := few_len (lim := lim) ha k (by omega)
    rw [few_take ha (by omega)]; split <;> omega

/-- While no gate is too hot, nothing is cooled. -/
theorem gr_cold {lim : Int} {l : List T3} (hl : Acts l) : ∀ k, k ≤ l.length → (∀ j, j < k → isHot lim l j = false) → ∀ ion, gr lim (l.take k) ion = (0, heatO (l.take k) ion)
  | 0, _, _, ion => by simp [gr, heatO]
  | k + 1, h, hc, ion => by
    have ih := gr_cold hl k (by omega) (fun j hj => hc j (by omega)) ion
    have hk := hc k (by omega)
    rw [gr_succ ion (by omega), heatO_succ ion (by omega), ih]
    unfold gstep hstep
    by_cases e : (l.getD k t0).2.1 = ion
    · rw [if_pos e, if_pos e]
      by_cases h2 : (l.getD k t0).1 = 2
      · rw [if_pos h2, if_pos h2]
      · rw [if_neg h2, if_neg h2, if_neg]
        rintro ⟨h1, h3⟩
        simp only [isHot, h1, e] at hk
        simp at hk
        simp at h3
        omega
    · rw [if_neg e, if_neg e]
theorem few_cold {lim : Int} {l : List T3} (hl : Acts l) (h : hotL lim l = []) : few lim l = 0 := by
  have hc := (hotTo_nil lim l l.length).1 h
  have := fun ion => gr_cold hl l.length (Nat.le_refl _) hc ion
  simp only [List.take_length] at this
  simp [few, few1, this]
/-- A cooling just before the first gate that is too hot: one less is wanted. -/
theorem few_first {lim : Int} {l : List T3} (hl : Acts l) (hlim : 0 ≤ lim) {i : Nat} (hi : i < l.length) (hh : isHot lim l i = true) (hc : ∀ j, j < i → isHot lim l j = false) :
    few lim l = 1 + few lim (l.take i ++ [(2, (l.getD i t0).2.1, 0)] ++ l.drop i) := by
  have hg := gr_cold hl i (by omega) hc
  have hd : l.drop i = l.getD i t0 :: l.drop (i + 1) := by rw [List.drop_eq_getElem_cons hi]; simp [hi]
  have h4 := hl.get hi
  simp only [isHot, Bool.and_eq_true, beq_iff_eq, decide_eq_true_eq] at hh
  generalize l.getD i t0 = a at *
  have e1 : ∀ ion, few1 lim l ion = ((l.drop (i + 1)).foldl (gstep lim ion) (gstep lim ion (0, heatO (l.take i) ion) a)).1 := fun ion => by
    rw [few1, gr]
    conv => lhs; rw [← List.take_append_drop i l]
    rw [List.foldl_append, hd, List.foldl_cons]
    have := hg ion
    rw [gr] at this
    rw [this]
  have e2 : ∀ ion, few1 lim (l.take i ++ [(2, a.2.1, 0)] ++ l.drop i) ion = ((l.drop (i + 1)).foldl (gstep lim ion) (gstep lim ion (gstep lim ion (0, heatO (l.take i) ion) (2, a.2.1, 0)) a)).1 := fun ion => by
    rw [few1, gr, List.append_assoc, List.foldl_append, hd]
    have := hg ion
    rw [gr] at this
    rw [this]
    rfl
  have e3 : ∀ ion, few1 lim l ion = few1 lim (l.take i ++ [(2, a.2.1, 0)] ++ l.drop i) ion + (if a.2.1 = ion then 1 else 0) := fun ion => by
    rw [e1, e2]
    by_cases e : a.2.1 = ion
    · subst e
      have s1 : gstep lim a.2.1 (0, heatO (l.take i) a.2.1) a = (0 + 1, a.2.2) := by
        unfold gstep
        rw [if_pos rfl, if_neg (by omega), if_pos hh]
      have s2 : gstep lim a.2.1 (gstep lim a.2.1 (0, heatO (l.take i) a.2.1) (2, a.2.1, 0)) a = (0, a.2.2) := by
        have s3 : gstep lim a.2.1 (0, heatO (l.take i) a.2.1) (2, a.2.1, 0) = (0, 0) := by simp [gstep]
        rw [s3]
        unfold gstep
        rw [if_pos rfl, if_neg (by omega), if_neg (by simp; omega)]
        simp
      rw [s1, s2, gfold_add, if_pos rfl]
    · have s1 : gstep lim ion (0, heatO (l.take i) ion) a = (0, heatO (l.take i) ion) := by simp [gstep, e]
      have s2 : gstep lim ion (gstep lim ion (0, heatO (l.take i) ion) (2, a.2.1, 0)) a = (0, heatO (l.take i) ion) := by simp [gstep, e]
      rw [s1, s2, if_neg e]; rfl
  rw [few, e3, e3, e3, e3, few]
  have i0 := h4.i0
  have i3 := h4.i3
  rcases (show a.2.1 = 0 ∨ a.2.1 = 1 ∨ a.2.1 = 2 ∨ a.2.1 = 3 by omega) with e | e | e | e
  all_goals
    simp only [e]
    simp
    try omega
/-- A greater limit wants no more. -/
theorem gr_limits {lim lim' : Int} (hl : lim ≤ lim') (ion : Int) : ∀ {l : List T3}, Acts l → ∀ (s s' : Nat × Int), 0 ≤ s.2 → 0 ≤ s'.2 → s'.1 ≤ s.1 → (s'.1 = s.1 → s'.2 ≤ s.2) → (l.foldl (gstep lim' ion) s').1 ≤ (l.foldl (gstep lim ion) s).1
  | [], _, _, _, _, _, h, _ => h
  | a :: t, ha, s, s', p, p', h1, h2 => by
    have h4 := ha a (by simp)
    have hb := h4.h0
    obtain ⟨c, h⟩ := s
    obtain ⟨c', h'⟩ := s'
    simp only at p p' h1 h2
    simp only [List.foldl_cons]
    have ht : Acts t := fun x hx => ha x (by simp [hx])
    unfold gstep
    by_cases e : a.2.1 = ion
    · rw [if_pos e, if_pos e]
      by_cases e2 : a.1 = 2
      · rw [if_pos e2, if_pos e2]
        exact gr_limits hl ion ht _ _ (by simp) (by simp) h1 (fun _ => by simp)
      · rw [if_neg e2, if_neg e2]
        by_cases x : a.1 = 1 ∧ lim < h
        · rw [if_pos x]
          by_cases x' : a.1 = 1 ∧ lim' < h'
          · rw [if_pos x']
            exact gr_limits hl ion ht _ _ hb hb (by simp; omega) (fun _ => by simp)
          · rw [if_neg x']
            exact gr_limits hl ion ht _ _ hb (by simp; omega) (by simp; omega) (fun q => by simp at q; omega)
        · rw [if_neg x]
          by_cases x' : a.1 = 1 ∧ lim' < h'
          · rw [if_pos x']
            have hlt : c' < c := by
              rcases Nat.lt_or_ge c' c with y | y
              · exact y
              · have := h2 (by omega)
                exact absurd ⟨x'.1, by omega⟩ x
            exact gr_limits hl ion ht _ _ (by simp; omega) hb (by simp; omega) (fun q => by simp; omega)
          · rw [if_neg x']
            exact gr_limits hl ion ht _ _ (by simp; omega) (by simp; omega) h1 (fun q => by simp at q ⊢; have := h2 q; omega)
    · rw [if_neg e, if_neg e]
      exact gr_limits hl ion ht _ _ p p' h1 h2
theorem few_limits {lim lim' : Int} (hl : lim ≤ lim') {l : List T3} (ha : Acts l) : few lim' l ≤ few lim l := by
  have h := fun ion => gr_limits hl ion ha (0, 0) (0, 0) (by simp) (by simp) (Nat.le_refl _) (fun _ => by simp)
  have h0 := h 0
  have h1 := h 1
  have h2 := h 2
  have h3 := h 3
  simp only [few, few1, gr]
  omega
/-- Acts behind want no less. -/
theorem few_more (lim : Int) (l m : List T3) : few lim l ≤ few lim (l ++ m) := by
  have h : ∀ ion, few1 lim l ion ≤ few1 lim (l ++ m) ion := fun ion => by
    rw [few1, few1, gr, gr, List.foldl_append]
    exact gfold_mono lim ion m _
  have h0 := h 0
  have h1 := h 1
  have h2 := h 2
  have h3 := h 3
  simp only [few]
  omega
/-- Fewer than are too hot, and none just where none is. -/
theorem gr_le {lim : Int} {l : List T3} (ha : Acts l) (ion : Int) : ∀ k, k ≤ l.length → (gr lim (l.take k) ion).2 ≤ heatO (l.take k) ion
  | 0, _ => by simp [gr, heatO]
  | k + 1, h => by
    have ih := gr_le (lim := lim) ha ion k (by omega)
    have hr := heatO_range (ha.take k) ion
    have h4 := ha.get (k := k) (by omega)
    rw [gr_succ ion (by omega), heatO_succ ion (by omega)]
    unfold gstep hstep
    have hb := h4.h0
    split
    · split
      · simp
      · split
        · simp; omega
        · simp; omega
    · exact ih
theorem trig_hot {lim : Int} {l : List T3} (ha : Acts l) {k : Nat} (hk : k ≤ l.length) (h : trig lim l k = true) : isHot lim l k = true := by
  simp only [trig, isHot, Bool.and_eq_true, beq_iff_eq, decide_eq_true_eq] at h ⊢
  have := gr_le (lim := lim) ha (l.getD k t0).2.1 k hk
  exact ⟨h.1, by omega⟩
theorem few_hot {lim : Int} {l : List T3} (ha : Acts l) : ∀ k, k ≤ l.length → few lim (l.take k) ≤ (hotTo lim l k).length
  | 0, _ => by simp [few, few1, gr]
  | k + 1, h => by
    have ih := few_hot (lim := lim) ha k (by omega)
    rw [few_take ha (by omega), hotTo]
    cases ht : trig lim l k with
    | true => rw [if_pos rfl, if_pos (trig_hot ha (by omega) ht)]; simp; omega
    | false => simp only [Bool.false_eq_true, if_false]; split <;> simp <;> omega
theorem few_zero {lim : Int} {l : List T3} (ha : Acts l) : few lim l = 0 ↔ hotL lim l = [] := by
  refine ⟨fun h => ?_, few_cold ha⟩
  -- nothing is cooled, so the heats are those of the plan
  have hz : ∀ k, k ≤ l.length → few lim (l.take k) = 0 := fun k _ => by
    have := few_more lim (l.take k) (l.drop k)
    rw [List.take_append_drop, h] at this; omega
  have hno : ∀ k, k ≤ l.length → ∀ j, j < k → isHot lim l j = false := by
    intro k
    induction k with
    | zero => intro _ j hj; omega
    | succ k ih =>
      intro hk j hj
      rcases Nat.lt_or_ge j k with x | x
      · exact ih (by omega) j x
      · obtain rfl : j = k := by omega
        have hg := gr_cold (lim := lim) ha j (by omega) (ih (by omega))
        have h1 := few_take (lim := lim) ha (k := j) (by omega)
        rw [hz _ hk, hz _ (by omega)] at h1
        have ht : trig lim l j = false := by
          cases e : trig lim l j with
          | false => rfl
          | true => rw [e] at h1; simp at h1
        simp only [trig, hg] at ht
        exact ht
  exact (hotTo_nil lim l l.length).2 (hno l.length (Nat.le_refl _))
end Go.Proofs.Ytlhnbknilcmleaa
