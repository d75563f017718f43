/- Fixes and choices; the budget with a choice; orders of choices. Numbers and lists alone. -/
import Derived.Test.YtgbjglkiaoplmaaBudC
namespace Go.Proofs.Ytgbjglkiaoplmaa

/-- A fix: of the item i, with the rate n/d, for c. -/
structure Fx where
  i : Int
  n : Int
  d : Int
  c : Int
deriving DecidableEq
def fx0 : Fx := ⟨0, 0, 0, 0⟩
def itemB (l : List It) (i : Int) : Bool := decide (0 ≤ i ∧ i < l.length)
def fixB (l : List It) (f : Fx) : Bool := itemB l f.i && rateB f.n f.d && decide (0 ≤ f.c ∧ f.c ≤ 99) && decide (part f.n f.d ≤ part (l.getD f.i.toNat it0).n (l.getD f.i.toNat it0).d)
theorem fixB_iff {l : List It} {f : Fx} : fixB l f = true ↔ (0 ≤ f.i ∧ f.i < l.length) ∧ rateB f.n f.d = true ∧ (0 ≤ f.c ∧ f.c ≤ 99) ∧ part f.n f.d ≤ part (l.getD f.i.toNat it0).n (l.getD f.i.toNat it0).d := by
  unfold fixB itemB
  rw [Bool.and_eq_true, Bool.and_eq_true, Bool.and_eq_true, decide_eq_true_eq, decide_eq_true_eq, decide_eq_true_eq, and_assoc, and_assoc]
def allFx (l : List It) (fs : List Fx) : Nat → Bool
  | 0 => true
  | k + 1 => allFx l fs k && fixB l (fs.getD k fx0)
theorem allFx_iff {l : List It} {fs : List Fx} : ∀ {k : Nat}, allFx l fs k = true ↔ ∀ i, i < k → fixB l (fs.getD i fx0) = true
  | 0 => by simp [allFx]
  | k + 1 => by
    rw [allFx, Bool.and_eq_true, allFx_iff]
    constructor
    · rintro ⟨h1, h2⟩ i hi
      rcases Nat.lt_or_ge i k with h | h
      · exact h1 i h
      · rw [show i = k by omega]; exact h2
    · exact fun h => ⟨fun i hi => h i (by omega), h k (by omega)⟩
/-- The first error of a budget and fixes of it. -/
def vfE (l : List It) (fs : List Fx) : Int := if valE l = 0 then (if 8 < fs.length then 3 else if allFx l fs fs.length = true then 0 else 1) else valE l
theorem vfE_ok {l : List It} {fs : List Fx} (h : vfE l fs = 0) : valE l = 0 ∧ fs.length ≤ 8 ∧ ∀ k, k < fs.length → fixB l (fs.getD k fx0) = true := by
  unfold vfE at h
  split at h
  · rename_i h0
    split at h
    · cases h
    · split at h
      · rename_i h1 h2; exact ⟨h0, by omega, allFx_iff.1 h2⟩
      · cases h
  · rename_i h0; exact absurd h h0

/-- The item of the fix x. -/
def itemF (fs : List Fx) (x : Int) : Int := (fs.getD x.toNat fx0).i
/-- Whether the first k numbers of a choice ascend within the fixes. -/
def ascB (fs : List Fx) (c : List Int) : Nat → Bool
  | 0 => true
  | k + 1 => ascB fs c k && (decide (0 ≤ c.getD k 0 ∧ c.getD k 0 < fs.length) && (decide (k = 0) || decide (c.getD (k - 1) 0 < c.getD k 0)))
/-- Whether the number k has the item of none before it. -/
def newF (fs : List Fx) (c : List Int) (k : Nat) : Nat → Bool
  | 0 => true
  | j + 1 => newF fs c k j && !decide (itemF fs (c.getD k 0) = itemF fs (c.getD j 0))
def diffB (fs : List Fx) (c : List Int) : Nat → Bool
  | 0 => true
  | k + 1 => diffB fs c k && newF fs c k k
def choE (fs : List Fx) (c : List Int) : Int := if ascB fs c c.length = true then (if diffB fs c c.length = true then 0 else 6) else 1
theorem ascB_iff {fs : List Fx} {c : List Int} : ∀ {k : Nat}, ascB fs c k = true ↔ ∀ i, i < k → (0 ≤ c.getD i 0 ∧ c.getD i 0 < fs.length) ∧ (0 < i → c.getD (i - 1) 0 < c.getD i 0)
  | 0 => by simp [ascB]
  | k + 1 => by
    rw [ascB, Bool.and_eq_true, ascB_iff, Bool.and_eq_true, Bool.or_eq_true, decide_eq_true_eq, decide_eq_true_eq, decide_eq_true_eq]
    constructor
    · rintro ⟨h1, h2, h3⟩ i hi
      rcases Nat.lt_or_ge i k with h | h
      · exact h1 i h
      · obtain rfl : i = k := by omega
        exact ⟨h2, fun h0 => h3.resolve_left (by omega)⟩
    · intro h
      refine ⟨fun i hi => h i (by omega), (h k (by omega)).1, ?_⟩
      rcases Nat.eq_zero_or_pos k with h0 | h0
      · exact .inl h0
      · exact .inr ((h k (by omega)).2 h0)
theorem newF_iff {fs : List Fx} {c : List Int} {k : Nat} : ∀ {j : Nat}, newF fs c k j = true ↔ ∀ i, i < j → itemF fs (c.getD k 0) ≠ itemF fs (c.getD i 0)
  | 0 => by simp [newF]
  | j + 1 => by
    rw [newF, Bool.and_eq_true, newF_iff, Bool.not_eq_true', decide_eq_false_iff_not]
    constructor
    · rintro ⟨h1, h2⟩ i hi
      rcases Nat.lt_or_ge i j with h | h
      · exact h1 i h
      · rw [show i = j by omega]; exact h2
    · exact fun h => ⟨fun i hi => h i (by omega), h j (by omega)⟩
theorem diffB_iff {fs : List Fx} {c : List Int} : ∀ {k : Nat}, diffB fs c k = true ↔ ∀ i j, j < i → i < k → itemF fs (c.getD i 0) ≠ itemF fs (c.getD j 0)
  | 0 => by simp [diffB]
  | k + 1 => by
    rw [diffB, Bool.and_eq_true, diffB_iff, newF_iff]
    constructor
    · rintro ⟨h1, h2⟩ i j hj hi
      rcases Nat.lt_or_ge i k with h | h
      · exact h1 i j hj h
      · obtain rfl : i = k := by omega
        exact h2 j hj
    · exact fun h => ⟨fun i j hj hi => h i j hj (by omega), fun j hj => h k j hj (by omega)⟩
/-- A choice. -/
def Cho (fs : List Fx) (c : List Int) : Prop := (∀ x ∈ c, 0 ≤ x ∧ x < fs.length) ∧ c.Pairwise fun a b => a < b ∧ itemF fs b ≠ itemF fs a
theorem getD_of {c : List Int} {i : Nat} (h : i < c.length) : c.getD i 0 = c[i] := by simp [h]
theorem asc_lt {fs : List Fx} {c : List Int} {k : Nat} (h : ascB fs c k = true) : ∀ j i, i < j → j < k → c.getD i 0 < c.getD j 0
  | 0, i, hi, _ => absurd hi (by omega)
  | j + 1, i, hi, hj => by
    have h1 := (ascB_iff.1 h (j + 1) hj).2 (by omega)
    rw [Nat.add_sub_cancel] at h1
    rcases Nat.lt_or_ge i j with h' | h'
    · have := asc_lt h j i h' (by omega); omega
    · rw [show i = j by omega]; exact h1
theorem cho_iff {fs : List Fx} {c : List Int} : choE fs c = 0 ↔ Cho fs c := by
  have e : choE fs c = 0 ↔ ascB fs c c.length = true ∧ diffB fs c c.length = true := by
    unfold choE
    constructor
    · intro h
      split at h
      · split at h
        · rename_i h1 h2; exact ⟨h1, h2⟩
        · cases h
      · cases h
    · rintro ⟨h1, h2⟩; rw [if_pos h1, if_pos h2]
  rw [e]
  unfold Cho
  rw [List.pairwise_iff_getElem]
  constructor
  · rintro ⟨h1, h2⟩
    refine ⟨fun x hx => ?_, fun i j hi hj hij => ⟨?_, ?_⟩⟩
    · obtain ⟨i, hi, rfl⟩ := List.getElem_of_mem hx
      have := (ascB_iff.1 h1 i hi).1
      rwa [getD_of hi] at this
    · have := asc_lt h1 j i hij hj
      rwa [getD_of hi, getD_of hj] at this
    · have := diffB_iff.1 h2 j i hij hj
      rwa [getD_of hi, getD_of hj] at this
  · rintro ⟨h1, h2⟩
    refine ⟨ascB_iff.2 fun i hi => ⟨?_, fun h0 => ?_⟩, diffB_iff.2 fun i j hj hi => ?_⟩
    · rw [getD_of hi]; exact h1 _ (List.getElem_mem hi)
    · rw [getD_of hi, getD_of (show i - 1 < c.length by omega)]; exact (h2 (i - 1) i (by omega) hi (by omega)).1
    · rw [getD_of hi, getD_of (show j < c.length by omega)]; exact (h2 j i (by omega) hi hj).2
theorem cho_nil (fs : List Fx) : Cho fs [] := ⟨by simp, List.Pairwise.nil⟩
theorem cho_pre {fs : List Fx} {b t : List Int} (h : Cho fs (b ++ t)) : Cho fs b := ⟨fun x hx => h.1 x (List.mem_append_left _ hx), (List.pairwise_append.1 h.2).1⟩
theorem cho_len {fs : List Fx} {c : List Int} (h : Cho fs c) (hn : fs.length ≤ 8) : c.length ≤ 8 := by
  have h1 : ∀ k, k < c.length → (k : Int) ≤ c.getD k 0 := fun k => by
    induction k with
    | zero => intro hk; rw [getD_of hk]; exact (h.1 _ (List.getElem_mem hk)).1
    | succ k ih =>
      intro hk
      have := ih (by omega)
      have h2 := ((List.pairwise_iff_getElem.1 h.2) k (k + 1) (by omega) hk (by omega)).1
      rw [getD_of (show k < c.length by omega)] at this
      rw [getD_of hk]
      push_cast; omega
  rcases Nat.lt_or_ge 8 c.length with h' | h'
  · have := h1 8 h'
    rw [getD_of h'] at this
    have := (h.1 _ (List.getElem_mem h')).2
    omega
  · exact h'

/-! The budget with a choice. -/
def withS (fs : List Fx) (s : List It × Int) (x : Int) : List It × Int :=
  (s.1.set (itemF fs x).toNat ⟨(s.1.getD (itemF fs x).toNat it0).u, (fs.getD x.toNat fx0).n, (fs.getD x.toNat fx0).d⟩, s.2 + (fs.getD x.toNat fx0).c)
def withTo (l : List It) (fs : List Fx) (c : List Int) : Nat → List It × Int
  | 0 => (l, 0)
  | k + 1 => withS fs (withTo l fs c k) (c.getD k 0)
def withL (l : List It) (fs : List Fx) (c : List Int) : List It × Int := withTo l fs c c.length
theorem withTo_len (l : List It) (fs : List Fx) (c : List Int) : ∀ k, (withTo l fs c k).1.length = l.length
  | 0 => rfl
  | k + 1 => by rw [withTo, withS]; simp [withTo_len l fs c k]
theorem withL_len (l : List It) (fs : List Fx) (c : List Int) : (withL l fs c).1.length = l.length := withTo_len _ _ _ _
theorem withL_nil (l : List It) (fs : List Fx) : withL l fs [] = (l, 0) := rfl
/-- Numbers within the fixes. -/
def InF (fs : List Fx) (c : List Int) : Prop := ∀ k, k < c.length → 0 ≤ c.getD k 0 ∧ c.getD k 0 < fs.length
theorem cho_in {fs : List Fx} {c : List Int} (h : Cho fs c) : InF fs c := fun k hk => by rw [getD_of hk]; exact h.1 _ (List.getElem_mem hk)
structure Bet (l m : List It) : Prop where
  len : m.length = l.length
  at_ : ∀ j, j < l.length → (m.getD j it0).u = (l.getD j it0).u ∧ rateB (m.getD j it0).n (m.getD j it0).d = true ∧ part (m.getD j it0).n (m.getD j it0).d ≤ part (l.getD j it0).n (l.getD j it0).d
theorem with_bet {l : List It} {fs : List Fx} {c : List Int} (h : vfE l fs = 0) (hc : InF fs c) : ∀ k, k ≤ c.length → Bet l (withTo l fs c k).1 ∧ 0 ≤ (withTo l fs c k).2 ∧ (withTo l fs c k).2 ≤ 99 * k
  | 0, _ => ⟨⟨rfl, fun j hj => ⟨rfl, (val_ok (vfE_ok h).1 j hj).r, Int.le_refl _⟩⟩, Int.le_refl _, by show (0 : Int) ≤ _; omega⟩
  | k + 1, hk => by
    obtain ⟨hb, h0, h9⟩ := with_bet h hc k (by omega)
    have hx := hc k (by omega)
    have hf := fixB_iff.1 ((vfE_ok h).2.2 (c.getD k 0).toNat (by omega))
    rw [withTo, withS]
    unfold itemF
    generalize fs.getD (c.getD k 0).toNat fx0 = f at *
    obtain ⟨⟨i0, i1⟩, hr, ⟨c0, c1⟩, hp⟩ := hf
    refine ⟨⟨by simp [hb.len], fun j hj => ?_⟩, by show 0 ≤ (withTo l fs c k).2 + f.c; omega, by show (withTo l fs c k).2 + f.c ≤ _; push_cast; omega⟩
    have hbj := hb.at_ j hj
    have hlen := hb.len
    generalize (withTo l fs c k).1 = m at *
    by_cases he : f.i.toNat = j
    · subst he
      have e : (m.set f.i.toNat ⟨(m.getD f.i.toNat it0).u, f.n, f.d⟩).getD f.i.toNat it0 = ⟨(m.getD f.i.toNat it0).u, f.n, f.d⟩ := by simp [hlen, hj]
      rw [e]
      exact ⟨hbj.1, hr, hp⟩
    · have e : (m.set f.i.toNat ⟨(m.getD f.i.toNat it0).u, f.n, f.d⟩).getD j it0 = m.getD j it0 := by simp [List.getD_eq_getElem?_getD, List.getElem?_set_ne he]
      rw [e]; exact hbj
theorem Bet.val {l m : List It} (h : Bet l m) (hv : valE l = 0) : valE m = 0 := by
  obtain ⟨h1, h2⟩ := valE_ok hv
  have hl := h.len
  unfold valE
  rw [if_neg (by omega), if_pos]
  refine allIt_iff.2 fun i hi => ?_
  have h3 := itB_iff.1 (h2 i (by omega))
  obtain ⟨e1, e2, _⟩ := h.at_ i (by omega)
  have h4 := rateB_iff.1 e2
  rw [itB_iff, e1]; omega
theorem Bet.parts {l m : List It} (h : Bet l m) (hv : OkIs 8 l) : ∀ k, k ≤ l.length → partsTo m k ≤ partsTo l k
  | 0, _ => Int.le_refl _
  | k + 1, hk => by
    have := h.parts hv k (by omega)
    obtain ⟨e1, _, e3⟩ := h.at_ k (by omega)
    rw [partsTo, partsTo]
    unfold shareP
    rw [e1]
    have := Int.mul_le_mul_of_nonneg_left e3 (hv k (by omega)).u0
    omega
theorem with_ok {l : List It} {fs : List Fx} {c : List Int} (h : vfE l fs = 0) (hc : Cho fs c) :
    valE (withL l fs c).1 = 0 ∧ partsL (withL l fs c).1 ≤ partsL l ∧ 0 ≤ (withL l fs c).2 ∧ (withL l fs c).2 ≤ 792 := by
  obtain ⟨h1, h2, h3⟩ := with_bet h (cho_in hc) c.length (Nat.le_refl _)
  have h8 := cho_len hc (vfE_ok h).2.1
  refine ⟨h1.val (vfE_ok h).1, ?_, h2, by unfold withL; omega⟩
  unfold partsL withL
  rw [h1.len]
  exact h1.parts (val_ok (vfE_ok h).1) _ (Nat.le_refl _)

/-! Orders of lists. -/
def ltL : List Int → List Int → Bool
  | [], [] => false
  | [], _ :: _ => true
  | _ :: _, [] => false
  | a :: s, b :: t => decide (a < b) || (decide (a = b) && ltL s t)
theorem ltL_cons {a b : Int} {s t : List Int} : ltL (a :: s) (b :: t) = true ↔ a < b ∨ a = b ∧ ltL s t = true := by
  rw [ltL, Bool.or_eq_true, Bool.and_eq_true, decide_eq_true_eq, decide_eq_true_eq]
theorem ltL_self : ∀ a, ltL a a = false
  | [] => rfl
  | a :: s => by rw [ltL, ltL_self s]; simp
theorem ltL_trans : ∀ {a b c : List Int}, ltL a b = true → ltL b c = true → ltL a c = true
  | [], [], _, h, _ => by cases h
  | _ :: _, [], _, h, _ => by cases h
  | _, _ :: _, [], _, h => by cases h
  | [], _ :: _, _ :: _, _, _ => rfl
  | a :: s, b :: t, c :: u, h, k => by
    rw [ltL_cons] at h k ⊢
    rcases h with h | ⟨h, h'⟩
    · rcases k with k | ⟨k, _⟩ <;> exact .inl (by omega)
    · rcases k with k | ⟨k, k'⟩
      · exact .inl (by omega)
      · exact .inr ⟨by omega, ltL_trans h' k'⟩
theorem ltL_tri : ∀ {a b : List Int}, ltL a b = false → ltL b a = false → a = b
  | [], [], _, _ => rfl
  | [], _ :: _, h, _ => by cases h
  | _ :: _, [], _, h => by cases h
  | a :: s, b :: t, h, k => by
    have h' : ¬ (a < b ∨ a = b ∧ ltL s t = true) := fun x => by rw [ltL_cons.2 x] at h; cases h
    have k' : ¬ (b < a ∨ b = a ∧ ltL t s = true) := fun x => by rw [ltL_cons.2 x] at k; cases k
    obtain rfl : a = b := by omega
    have h2 : ltL s t = false := by
      rcases hx : ltL s t with _ | _
      · rfl
      · exact absurd (.inr ⟨rfl, hx⟩) h'
    have k2 : ltL t s = false := by
      rcases hx : ltL t s with _ | _
      · rfl
      · exact absurd (.inr ⟨rfl, hx⟩) k'
    rw [ltL_tri h2 k2]
theorem ltL_app (p s t : List Int) : ltL (p ++ s) (p ++ t) = ltL s t := by
  induction p with
  | nil => rfl
  | cons a p ih => rw [List.cons_append, List.cons_append, ltL, ih]; simp
theorem ltL_asym {a b : List Int} (h : ltL a b = true) : ltL b a = false := by
  rcases k : ltL b a with _ | _
  · rfl
  · have := ltL_trans h k
    rw [ltL_self] at this; cases this
/-- m is the least of what P tells. -/
def Least {α : Type} (P : α → Prop) (key : α → List Int) (m : α) : Prop := P m ∧ ∀ x, P x → ltL (key x) (key m) = false
theorem least_one {α : Type} {P : α → Prop} {key : α → List Int} {m n : α} (h : Least P key m) (k : Least P key n) : key m = key n := ltL_tri (k.2 m h.1) (h.2 n k.1)
/-- The first one of the least, as it is found one by one. -/
def leastF {α : Type} (key : α → List Int) : List α → Option α
  | [] => none
  | a :: t => some (t.foldl (fun m x => if ltL (key x) (key m) = true then x else m) a)
theorem least_fold {α : Type} (key : α → List Int) : ∀ (t : List α) (a : α), Least (fun x => x ∈ a :: t) key (t.foldl (fun m x => if ltL (key x) (key m) = true then x else m) a)
  | [], a => ⟨by simp, fun x hx => by rw [List.mem_singleton.1 hx]; exact ltL_self _⟩
  | b :: t, a => by
    rw [List.foldl_cons]
    have ih := least_fold key t (if ltL (key b) (key a) = true then b else a)
    generalize t.foldl (fun m x => if ltL (key x) (key m) = true then x else m) (if ltL (key b) (key a) = true then b else a) = m at *
    obtain ⟨h1, h2⟩ := ih
    by_cases hb : ltL (key b) (key a) = true
    · rw [if_pos hb] at h1 h2
      refine ⟨by rcases List.mem_cons.1 h1 with h | h <;> simp [h], fun x hx => ?_⟩
      rcases List.mem_cons.1 hx with rfl | hx
      · rcases hlt : ltL (key x) (key m) with _ | _
        · rfl
        · have h3 := h2 b (by simp)
          have := ltL_trans hb hlt
          rw [h3] at this; cases this
      · exact h2 x hx
    · rw [if_neg hb] at h1 h2
      have hb' : ltL (key b) (key a) = false := by simpa using hb
      refine ⟨by rcases List.mem_cons.1 h1 with h | h <;> simp [h], fun x hx => ?_⟩
      rcases List.mem_cons.1 hx with rfl | hx
      · exact h2 x (by simp)
      · rcases List.mem_cons.1 hx with rfl | hx
        · rcases hlt : ltL (key x) (key m) with _ | _
          · rfl
          · have h3 := h2 a (by simp)
            rcases hax : ltL (key a) (key x) with _ | _
            · rw [ltL_tri hb' hax] at hlt; rw [h3] at hlt; cases hlt
            · have := ltL_trans hax hlt
              rw [h3] at this; cases this
        · exact h2 x (by simp [hx])
end Go.Proofs.Ytgbjglkiaoplmaa
