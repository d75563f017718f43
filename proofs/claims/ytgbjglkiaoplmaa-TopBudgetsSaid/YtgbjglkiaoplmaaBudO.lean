/- All choices, by bits and one after another; the cheapest one; the best total. Numbers and lists alone. -/
import Derived.Test.YtgbjglkiaoplmaaBudF
namespace Go.Proofs.Ytgbjglkiaoplmaa

/-! One after another: those that go on from b with the numbers from n - g on. -/
def nextB (fs : List Fx) (b : List Int) (g : Nat) : List Int := b ++ [((fs.length - (g + 1) : Nat) : Int)]
def goF (fs : List Fx) : Nat → List Int → List (List Int)
  | 0, _ => []
  | g + 1, b => (if choE fs (nextB fs b g) = 0 then nextB fs b g :: goF fs g (nextB fs b g) else []) ++ goF fs g b
def allF (fs : List Fx) : List (List Int) := [] :: goF fs fs.length []
theorem go_mem {fs : List Fx} {c : List Int} : ∀ {g : Nat} {b : List Int}, g ≤ fs.length → (c ∈ goF fs g b ↔ Cho fs c ∧ ∃ t, c = b ++ t ∧ t ≠ [] ∧ ∀ x ∈ t, ((fs.length - g : Nat) : Int) ≤ x)
  | 0, b, _ => by
    simp only [goF, List.not_mem_nil, false_iff, not_and, not_exists]
    rintro h t rfl hne
    obtain ⟨x, hx⟩ := List.exists_mem_of_ne_nil _ hne
    intro h'
    have h1 := h' x hx
    have h2 := (h.1 x (List.mem_append_right _ hx)).2
    rw [Nat.sub_zero] at h1
    omega
  | g + 1, b, hg => by
    have ih1 := go_mem (fs := fs) (c := c) (g := g) (b := nextB fs b g) (by omega)
    have ih2 := go_mem (fs := fs) (c := c) (g := g) (b := b) (by omega)
    have hi : ((fs.length - g : Nat) : Int) = ((fs.length - (g + 1) : Nat) : Int) + 1 := by omega
    rw [goF, List.mem_append]
    constructor
    · rintro (h | h)
      · split at h
        · rename_i hok
          rcases List.mem_cons.1 h with rfl | h
          · exact ⟨cho_iff.1 hok, [_], rfl, by simp, fun x hx => by rw [List.mem_singleton.1 hx]; exact Int.le_refl _⟩
          · obtain ⟨hc, t, rfl, hne, ht⟩ := ih1.1 h
            refine ⟨hc, _ :: t, by unfold nextB; rw [List.append_assoc]; rfl, by simp, fun x hx => ?_⟩
            rcases List.mem_cons.1 hx with rfl | hx
            · exact Int.le_refl _
            · have := ht x hx; omega
        · cases h
      · obtain ⟨hc, t, rfl, hne, ht⟩ := ih2.1 h
        exact ⟨hc, t, rfl, hne, fun x hx => by have := ht x hx; omega⟩
    · rintro ⟨hc, t, rfl, hne, ht⟩
      cases t with
      | nil => exact absurd rfl hne
      | cons x t =>
        have hx := ht x (by simp)
        have hasc := (List.pairwise_cons.1 (List.pairwise_append.1 hc.2).2.1).1
        by_cases he : x = ((fs.length - (g + 1) : Nat) : Int)
        · have hn : nextB fs b g = b ++ [x] := by unfold nextB; rw [he]
          have e : b ++ x :: t = nextB fs b g ++ t := by rw [hn, List.append_assoc]; rfl
          have hok : choE fs (nextB fs b g) = 0 := cho_iff.2 (cho_pre (t := t) (by rw [← e]; exact hc))
          left
          rw [if_pos hok]
          cases t with
          | nil => rw [hn]; simp
          | cons y t =>
            refine List.mem_cons_of_mem _ (ih1.2 ⟨hc, y :: t, e, by simp, fun z hz => ?_⟩)
            have := (hasc z hz).1; omega
        · right
          refine ih2.2 ⟨hc, x :: t, rfl, by simp, fun z hz => ?_⟩
          rcases List.mem_cons.1 hz with rfl | hz
          · omega
          · have := (hasc z hz).1; omega
theorem go_lt {fs : List Fx} : ∀ {g : Nat} {b : List Int}, g ≤ fs.length → (goF fs g b).Pairwise fun x y => ltL x y = true
  | 0, _, _ => List.Pairwise.nil
  | g + 1, b, hg => by
    rw [goF, List.pairwise_append]
    refine ⟨?_, go_lt (by omega), ?_⟩
    · split
      · refine List.pairwise_cons.2 ⟨fun x hx => ?_, go_lt (by omega)⟩
        obtain ⟨_, t, rfl, hne, _⟩ := (go_mem (by omega)).1 hx
        have := ltL_app (nextB fs b g) [] t
        rw [List.append_nil] at this
        rw [this]
        cases t with
        | nil => exact absurd rfl hne
        | cons y t => rfl
      · exact List.Pairwise.nil
    · intro x hx y hy
      obtain ⟨_, t, rfl, hne, ht⟩ := (go_mem (by omega)).1 hy
      have hx' : ∃ s, x = b ++ ((fs.length - (g + 1) : Nat) : Int) :: s := by
        split at hx
        · rcases List.mem_cons.1 hx with rfl | hx
          · exact ⟨[], rfl⟩
          · obtain ⟨_, s, rfl, _⟩ := (go_mem (by omega)).1 hx
            exact ⟨s, by unfold nextB; rw [List.append_assoc]; rfl⟩
        · cases hx
      obtain ⟨s, rfl⟩ := hx'
      rw [ltL_app]
      cases t with
      | nil => exact absurd rfl hne
      | cons z t =>
        have := ht z (by simp)
        exact ltL_cons.2 (.inl (by omega))
theorem all_mem {fs : List Fx} {c : List Int} : c ∈ allF fs ↔ Cho fs c := by
  unfold allF
  rw [List.mem_cons, go_mem (Nat.le_refl _)]
  constructor
  · rintro (rfl | ⟨h, _⟩)
    · exact cho_nil fs
    · exact h
  · intro h
    cases c with
    | nil => exact .inl rfl
    | cons x t => exact .inr ⟨h, x :: t, rfl, by simp, fun y hy => by rw [Nat.sub_self]; exact (h.1 y hy).1⟩
theorem all_lt (fs : List Fx) : (allF fs).Pairwise fun x y => ltL x y = true := by
  refine List.pairwise_cons.2 ⟨fun x hx => ?_, go_lt (Nat.le_refl _)⟩
  obtain ⟨_, t, rfl, hne, _⟩ := (go_mem (Nat.le_refl _)).1 hx
  cases x with
  | nil => exact absurd rfl hne
  | cons y t => rfl

/-! By bits. -/
def bitB (b k : Nat) : Bool := decide (b / 2 ^ k % 2 = 1)
def chosTo (b : Nat) : Nat → List Int
  | 0 => []
  | k + 1 => if bitB b k = true then chosTo b k ++ [(k : Int)] else chosTo b k
def encB (p : Nat → Bool) : Nat → Nat
  | 0 => 0
  | n + 1 => (if p 0 = true then 1 else 0) + 2 * encB (fun k => p (k + 1)) n
theorem enc_lt : ∀ (n : Nat) (p : Nat → Bool), encB p n < 2 ^ n
  | 0, _ => by simp [encB]
  | n + 1, p => by
    have := enc_lt n (fun k => p (k + 1))
    rw [encB, Nat.pow_succ]
    split <;> omega
theorem enc_bit : ∀ (n k : Nat) (p : Nat → Bool), bitB (encB p n) k = (decide (k < n) && p k)
  | 0, k, p => by simp [encB, bitB]
  | n + 1, 0, p => by
    unfold bitB
    rw [encB, Nat.pow_zero, Nat.div_one]
    rcases hp : p 0 with _ | _
    · rw [if_neg (by decide)]; simp <;> omega
    · rw [if_pos rfl]; simp <;> omega
  | n + 1, k + 1, p => by
    have ih := enc_bit n k (fun k => p (k + 1))
    unfold bitB at ih ⊢
    rw [encB, Nat.pow_succ', ← Nat.div_div_eq_div_mul]
    rw [show ((if p 0 = true then 1 else 0) + 2 * encB (fun k => p (k + 1)) n) / 2 = encB (fun k => p (k + 1)) n by split <;> omega]
    rw [ih]; simp
theorem chos_mem {b : Nat} {x : Int} : ∀ {k : Nat}, x ∈ chosTo b k ↔ ∃ i : Nat, i < k ∧ bitB b i = true ∧ x = (i : Int)
  | 0 => by simp [chosTo]
  | k + 1 => by
    have ih := chos_mem (b := b) (x := x) (k := k)
    rw [chosTo]
    constructor
    · intro h
      split at h
      · rename_i hb
        rcases List.mem_append.1 h with h | h
        · obtain ⟨i, hi, h1⟩ := ih.1 h; exact ⟨i, by omega, h1⟩
        · exact ⟨k, by omega, hb, List.mem_singleton.1 h⟩
      · obtain ⟨i, hi, h1⟩ := ih.1 h; exact ⟨i, by omega, h1⟩
    · rintro ⟨i, hi, hb, rfl⟩
      rcases Nat.lt_or_ge i k with h | h
      · have := ih.2 ⟨i, h, hb, rfl⟩
        split
        · exact List.mem_append_left _ this
        · exact this
      · obtain rfl : i = k := by omega
        rw [if_pos hb]; simp
theorem chos_asc (b : Nat) : ∀ k, (chosTo b k).Pairwise (· < ·)
  | 0 => List.Pairwise.nil
  | k + 1 => by
    rw [chosTo]
    split
    · rw [List.pairwise_append]
      refine ⟨chos_asc b k, by simp, fun x hx y hy => ?_⟩
      obtain ⟨i, hi, _, rfl⟩ := chos_mem.1 hx
      rw [List.mem_singleton.1 hy]; omega
    · exact chos_asc b k
theorem chos_len (b : Nat) : ∀ k, (chosTo b k).length ≤ k
  | 0 => Nat.le_refl _
  | k + 1 => by
    have := chos_len b k
    rw [chosTo]; split
    · simp; omega
    · omega
theorem asc_ext : ∀ {a b : List Int}, a.Pairwise (· < ·) → b.Pairwise (· < ·) → (∀ x, x ∈ a ↔ x ∈ b) → a = b
  | [], [], _, _, _ => rfl
  | [], y :: t, _, _, h => by have := (h y).2 (by simp); cases this
  | x :: s, [], _, _, h => by have := (h x).1 (by simp); cases this
  | x :: s, y :: t, ha, hb, h => by
    obtain ⟨a1, a2⟩ := List.pairwise_cons.1 ha
    obtain ⟨b1, b2⟩ := List.pairwise_cons.1 hb
    have e : x = y := by
      rcases List.mem_cons.1 ((h x).1 (by simp)) with e | e
      · exact e
      · rcases List.mem_cons.1 ((h y).2 (by simp)) with e' | e'
        · exact e'.symm
        · have := b1 x e; have := a1 y e'; omega
    subst e
    rw [asc_ext a2 b2]
    intro z
    have hz := h z
    rw [List.mem_cons, List.mem_cons] at hz
    constructor
    · intro h'
      rcases hz.1 (.inr h') with rfl | h''
      · have := a1 z h'; omega
      · exact h''
    · intro h'
      rcases hz.2 (.inr h') with rfl | h''
      · have := b1 z h'; omega
      · exact h''
theorem bit_out {b k n : Nat} (h : b < 2 ^ n) (hk : n ≤ k) : bitB b k = false := by
  unfold bitB
  rw [Nat.div_eq_of_lt (Nat.lt_of_lt_of_le h (Nat.pow_le_pow_right (by decide) hk))]
  rfl
/-- What the first k bits choose is a choice but for the items. -/
theorem chos_in {b n : Nat} {fs : List Fx} (h : b < 2 ^ fs.length) : ∀ x ∈ chosTo b n, 0 ≤ x ∧ x < fs.length := fun x hx => by
  obtain ⟨i, _, hb, rfl⟩ := chos_mem.1 hx
  rcases Nat.lt_or_ge i fs.length with h' | h'
  · omega
  · rw [bit_out h h'] at hb; cases hb
theorem chos_all {fs : List Fx} {c : List Int} (hn : fs.length ≤ 8) (h : Cho fs c) : ∃ b, b < 2 ^ fs.length ∧ chosTo b 8 = c := by
  refine ⟨encB (fun k => decide ((k : Int) ∈ c)) fs.length, enc_lt _ _, asc_ext (chos_asc _ _) (h.2.imp fun h => h.1) fun x => ?_⟩
  rw [chos_mem]
  constructor
  · rintro ⟨i, _, hb, rfl⟩
    rw [enc_bit, Bool.and_eq_true] at hb
    exact of_decide_eq_true hb.2
  · intro hx
    have := h.1 x hx
    refine ⟨x.toNat, by omega, ?_, by omega⟩
    rw [enc_bit, Bool.and_eq_true]
    exact ⟨decide_eq_true (by omega), decide_eq_true (by rwa [show ((x.toNat : Nat) : Int) = x by omega])⟩
/-- An option: the choice, its cost, and the parts of the total. -/
structure Op where
  c : List Int
  k : Int
  p : Int
def op0 : Op := ⟨[], 0, 0⟩
def opOf (l : List It) (fs : List Fx) (c : List Int) : Op := ⟨c, (withL l fs c).2, partsL (withL l fs c).1⟩
def optTo (l : List It) (fs : List Fx) : Nat → List Op
  | 0 => []
  | b + 1 => if diffB fs (chosTo b 8) (chosTo b 8).length = true then optTo l fs b ++ [opOf l fs (chosTo b 8)] else optTo l fs b
def optL (l : List It) (fs : List Fx) : List Op := optTo l fs (2 ^ fs.length)
theorem optTo_len (l : List It) (fs : List Fx) : ∀ b, (optTo l fs b).length ≤ b
  | 0 => Nat.le_refl _
  | b + 1 => by
    have := optTo_len l fs b
    rw [optTo]; split
    · simp; omega
    · omega
theorem chos_cho {b : Nat} {fs : List Fx} (h : b < 2 ^ fs.length) : diffB fs (chosTo b 8) (chosTo b 8).length = true ↔ Cho fs (chosTo b 8) := by
  rw [← cho_iff]
  have ha : ascB fs (chosTo b 8) (chosTo b 8).length = true := by
    have hp := chos_asc b 8
    rw [List.pairwise_iff_getElem] at hp
    refine ascB_iff.2 fun i hi => ⟨?_, fun h0 => ?_⟩
    · rw [getD_of hi]; exact chos_in h _ (List.getElem_mem hi)
    · rw [getD_of hi, getD_of (show i - 1 < (chosTo b 8).length by omega)]; exact hp (i - 1) i (by omega) hi (by omega)
  unfold choE
  rw [if_pos ha]
  constructor
  · intro h; rw [if_pos h]
  · intro h
    split at h
    · assumption
    · cases h
theorem optTo_mem {l : List It} {fs : List Fx} {o : Op} : ∀ {b : Nat}, b ≤ 2 ^ fs.length → (o ∈ optTo l fs b ↔ ∃ k, k < b ∧ Cho fs (chosTo k 8) ∧ o = opOf l fs (chosTo k 8))
  | 0, _ => by simp [optTo]
  | b + 1, hb => by
    have ih := optTo_mem (l := l) (fs := fs) (o := o) (b := b) (by omega)
    have hc := chos_cho (b := b) (fs := fs) (by omega)
    rw [optTo]
    constructor
    · intro h
      split at h
      · rename_i hd
        rcases List.mem_append.1 h with h | h
        · obtain ⟨k, hk, h1⟩ := ih.1 h; exact ⟨k, by omega, h1⟩
        · exact ⟨b, by omega, hc.1 hd, List.mem_singleton.1 h⟩
      · obtain ⟨k, hk, h1⟩ := ih.1 h; exact ⟨k, by omega, h1⟩
    · rintro ⟨k, hk, h1, h2⟩
      rcases Nat.lt_or_ge k b with h | h
      · have := ih.2 ⟨k, h, h1, h2⟩
        split
        · exact List.mem_append_left _ this
        · exact this
      · obtain rfl : k = b := by omega
        rw [if_pos (hc.2 h1), h2]; simp
theorem opt_mem {l : List It} {fs : List Fx} {o : Op} (hn : fs.length ≤ 8) : o ∈ optL l fs ↔ ∃ c, Cho fs c ∧ o = opOf l fs c := by
  unfold optL
  rw [optTo_mem (Nat.le_refl _)]
  constructor
  · rintro ⟨k, _, h1, h2⟩; exact ⟨_, h1, h2⟩
  · rintro ⟨c, h1, h2⟩
    obtain ⟨b, hb, rfl⟩ := chos_all hn h1
    exact ⟨b, hb, h1, h2⟩

/-! The cheapest. -/
def keyO (o : Op) : List Int := o.k :: o.c
def closeO (m e : Int) (o : Op) : Bool := decide (o.p * e ≤ m * 2520)
/-- As the program finds it. -/
def cheapO (l : List It) (fs : List Fx) (m e : Int) : Option Op := leastF keyO ((optL l fs).filter (closeO m e))
/-- As the specification goes, over the choices in order. -/
def cheapS (l : List It) (fs : List Fx) (m e : Int) (s : Option (List Int × Int)) (c : List Int) : Option (List Int × Int) :=
  if closeB (withL l fs c).1 m e = true ∧ (s = none ∨ ∃ t, s = some t ∧ (withL l fs c).2 < t.2) then some (c, (withL l fs c).2) else s
theorem filter_mem {l : List It} {fs : List Fx} {m e : Int} (hn : fs.length ≤ 8) {o : Op} : o ∈ (optL l fs).filter (closeO m e) ↔ ∃ c, Cho fs c ∧ closeB (withL l fs c).1 m e = true ∧ o = opOf l fs c := by
  rw [List.mem_filter, opt_mem hn]
  constructor
  · rintro ⟨⟨c, h1, rfl⟩, h2⟩; exact ⟨c, h1, h2, rfl⟩
  · rintro ⟨c, h1, h2, rfl⟩; exact ⟨⟨c, h1, rfl⟩, h2⟩
/-- The best choice: c, for k. -/
structure Cheap (l : List It) (fs : List Fx) (m e : Int) (c : List Int) (k : Int) : Prop where
  cho : Cho fs c
  close : closeB (withL l fs c).1 m e = true
  cost : k = (withL l fs c).2
  least : ∀ d, Cho fs d → closeB (withL l fs d).1 m e = true → ltL ((withL l fs d).2 :: d) (k :: c) = false
theorem Cheap.le {l : List It} {fs : List Fx} {m e k : Int} {c d : List Int} (h : Cheap l fs m e c k) (hd : Cho fs d) (hc : closeB (withL l fs d).1 m e = true) : k ≤ (withL l fs d).2 := by
  have := h.least d hd hc
  rcases Int.lt_or_le (withL l fs d).2 k with h' | h'
  · rw [ltL_cons.2 (.inl h')] at this; cases this
  · exact h'
theorem Cheap.one {l : List It} {fs : List Fx} {m e k j : Int} {c d : List Int} (h : Cheap l fs m e c k) (h' : Cheap l fs m e d j) : c = d ∧ k = j := by
  have h1 := h.least d h'.cho h'.close
  have h2 := h'.least c h.cho h.close
  rw [← h'.cost] at h1
  rw [← h.cost] at h2
  have := ltL_tri h1 h2
  injection this with a b
  exact ⟨b.symm, a.symm⟩
theorem leastF_none {α : Type} {key : α → List Int} {l : List α} : leastF key l = none ↔ l = [] := by
  cases l with
  | nil => simp [leastF]
  | cons a t => simp [leastF]
theorem leastF_some {α : Type} {key : α → List Int} {l : List α} {m : α} (h : leastF key l = some m) : Least (fun x => x ∈ l) key m := by
  cases l with
  | nil => cases h
  | cons a t =>
    have := least_fold key t a
    simp only [leastF, Option.some.injEq] at h
    rw [h] at this; exact this
theorem cheap_o {l : List It} {fs : List Fx} {m e : Int} (hn : fs.length ≤ 8) {o : Op} (h : cheapO l fs m e = some o) : Cheap l fs m e o.c o.k := by
  obtain ⟨h1, h2⟩ := leastF_some h
  obtain ⟨c, hc, hcl, rfl⟩ := (filter_mem hn).1 h1
  exact ⟨hc, hcl, rfl, fun d hd hdc => h2 _ ((filter_mem hn).2 ⟨d, hd, hdc, rfl⟩)⟩
theorem cheap_o_none {l : List It} {fs : List Fx} {m e : Int} (hn : fs.length ≤ 8) (h : cheapO l fs m e = none) {c : List Int} (hc : Cho fs c) : closeB (withL l fs c).1 m e = false := by
  have h1 := leastF_none.1 h
  rcases hx : closeB (withL l fs c).1 m e with _ | _
  · rfl
  · have := (filter_mem (m := m) (e := e) hn).2 ⟨c, hc, hx, rfl⟩
    rw [h1] at this; cases this
/-- What the specification has found in the first ones. -/
def cheapTo (l : List It) (fs : List Fx) (m e : Int) (L : List (List Int)) : Option (List Int × Int) := L.foldl (cheapS l fs m e) none
theorem cheapTo_snoc (l : List It) (fs : List Fx) (m e : Int) (L : List (List Int)) (c : List Int) : cheapTo l fs m e (L ++ [c]) = cheapS l fs m e (cheapTo l fs m e L) c := by simp [cheapTo]
def CheapIn (l : List It) (fs : List Fx) (m e : Int) (L : List (List Int)) : Option (List Int × Int) → Prop
  | none => ∀ c ∈ L, closeB (withL l fs c).1 m e = false
  | some t => t.1 ∈ L ∧ closeB (withL l fs t.1).1 m e = true ∧ t.2 = (withL l fs t.1).2 ∧ ∀ d ∈ L, closeB (withL l fs d).1 m e = true → ltL ((withL l fs d).2 :: d) (t.2 :: t.1) = false
theorem list_snoc_ind {α : Type} {P : List α → Prop} (h0 : P []) (h1 : ∀ l x, P l → P (l ++ [x])) (l : List α) : P l := by
  have : ∀ m : List α, P m.reverse := fun m => by
    induction m with
    | nil => exact h0
    | cons a t ih => rw [List.reverse_cons]; exact h1 _ _ ih
  have := this l.reverse
  rwa [List.reverse_reverse] at this
theorem cheapTo_in (l : List It) (fs : List Fx) (m e : Int) (L : List (List Int)) : L.Pairwise (fun x y => ltL x y = true) → CheapIn l fs m e L (cheapTo l fs m e L) := by
  induction L using list_snoc_ind with
  | h0 => intro _ c hc; cases hc
  | h1 L x ih =>
    intro hp
    obtain ⟨hp1, _, hp2⟩ := List.pairwise_append.1 hp
    have ih := ih hp1
    have hlt : ∀ d ∈ L, ltL d x = true := fun d hd => hp2 d hd x (by simp)
    rw [cheapTo_snoc]
    generalize cheapTo l fs m e L = s at *
    unfold cheapS
    split
    · rename_i h
      obtain ⟨hc, hs⟩ := h
      refine ⟨by simp, hc, rfl, fun d hd hdc => ?_⟩
      rcases List.mem_append.1 hd with hd | hd
      · rcases hs with rfl | ⟨t, rfl, ht⟩
        · have := ih d hd
          rw [hdc] at this; cases this
        · have h4 := ih.2.2.2 d hd hdc
          rcases hz : ltL ((withL l fs d).2 :: d) ((withL l fs x).2 :: x) with _ | _
          · rfl
          · have h5 : ltL ((withL l fs x).2 :: x) (t.2 :: t.1) = true := ltL_cons.2 (.inl ht)
            have := ltL_trans hz h5
            rw [h4] at this; cases this
      · rw [List.mem_singleton.1 hd]; exact ltL_self _
    · rename_i h
      cases s with
      | none =>
        intro d hd
        rcases List.mem_append.1 hd with hd | hd
        · exact ih d hd
        · rw [List.mem_singleton.1 hd]
          rcases hx : closeB (withL l fs x).1 m e with _ | _
          · rfl
          · exact absurd ⟨hx, .inl rfl⟩ h
      | some t =>
        obtain ⟨h1, h2, h3, h4⟩ := ih
        refine ⟨by simp [h1], h2, h3, fun d hd hdc => ?_⟩
        rcases List.mem_append.1 hd with hd | hd
        · exact h4 d hd hdc
        · rw [List.mem_singleton.1 hd] at hdc ⊢
          have hge : ¬ (withL l fs x).2 < t.2 := fun h' => h ⟨hdc, .inr ⟨t, rfl, h'⟩⟩
          rcases hz : ltL ((withL l fs x).2 :: x) (t.2 :: t.1) with _ | _
          · rfl
          · rcases ltL_cons.1 hz with h' | ⟨_, h'⟩
            · exact absurd h' hge
            · have := ltL_asym (hlt _ h1)
              rw [h'] at this; cases this
def cheapR (l : List It) (fs : List Fx) (m e : Int) : Option (List Int × Int) := cheapTo l fs m e (allF fs)
theorem cheap_r {l : List It} {fs : List Fx} {m e : Int} {t : List Int × Int} (h : cheapR l fs m e = some t) : Cheap l fs m e t.1 t.2 := by
  have := cheapTo_in l fs m e (allF fs) (all_lt fs)
  unfold cheapR at h
  rw [h] at this
  obtain ⟨h1, h2, h3, h4⟩ := this
  exact ⟨all_mem.1 h1, h2, h3, fun d hd => h4 d (all_mem.2 hd)⟩
theorem cheap_r_none {l : List It} {fs : List Fx} {m e : Int} (h : cheapR l fs m e = none) {c : List Int} (hc : Cho fs c) : closeB (withL l fs c).1 m e = false := by
  have := cheapTo_in l fs m e (allF fs) (all_lt fs)
  unfold cheapR at h
  rw [h] at this
  exact this c (all_mem.2 hc)
/-- Both find the same. -/
theorem cheap_same {l : List It} {fs : List Fx} (hn : fs.length ≤ 8) (m e : Int) : (cheapO l fs m e).map (fun o => (o.c, o.k)) = cheapR l fs m e := by
  rcases h1 : cheapO l fs m e with _ | o
  · rcases h2 : cheapR l fs m e with _ | t
    · rfl
    · have := cheap_r h2
      have h3 := cheap_o_none hn h1 this.cho
      rw [this.close] at h3; cases h3
  · have ho := cheap_o hn h1
    rcases h2 : cheapR l fs m e with _ | t
    · have h3 := cheap_r_none h2 ho.cho
      rw [ho.close] at h3; cases h3
    · obtain ⟨e1, e2⟩ := ho.one (cheap_r h2)
      show some (o.c, o.k) = some t
      rw [e1, e2]

/-! The best total for a cost. -/
def bestS (l : List It) (fs : List Fx) (k : Int) (n : Int) (c : List Int) : Int := if (withL l fs c).2 ≤ k then min n (partsL (withL l fs c).1) else n
def bestTo (l : List It) (fs : List Fx) (k : Int) (L : List (List Int)) : Int := L.foldl (bestS l fs k) (partsL l)
theorem bestTo_snoc (l : List It) (fs : List Fx) (k : Int) (L : List (List Int)) (c : List Int) : bestTo l fs k (L ++ [c]) = bestS l fs k (bestTo l fs k L) c := by simp [bestTo]
theorem bestTo_le {l : List It} {fs : List Fx} {k m : Int} (L : List (List Int)) : m ≤ bestTo l fs k L ↔ m ≤ partsL l ∧ ∀ c ∈ L, (withL l fs c).2 ≤ k → m ≤ partsL (withL l fs c).1 := by
  induction L using list_snoc_ind with
  | h0 => simp [bestTo]
  | h1 L x ih =>
    rw [bestTo_snoc]
    unfold bestS
    constructor
    · intro h
      split at h
      · rename_i hx
        obtain ⟨h1, h2⟩ := ih.1 (by omega)
        refine ⟨h1, fun c hc hk => ?_⟩
        rcases List.mem_append.1 hc with hc | hc
        · exact h2 c hc hk
        · rw [List.mem_singleton.1 hc]; omega
      · rename_i hx
        obtain ⟨h1, h2⟩ := ih.1 h
        refine ⟨h1, fun c hc hk => ?_⟩
        rcases List.mem_append.1 hc with hc | hc
        · exact h2 c hc hk
        · rw [List.mem_singleton.1 hc] at hk; exact absurd hk hx
    · rintro ⟨h1, h2⟩
      have h3 := ih.2 ⟨h1, fun c hc => h2 c (List.mem_append_left _ hc)⟩
      split
      · rename_i hx
        have := h2 x (by simp) hx
        omega
      · exact h3
def bestL (l : List It) (fs : List Fx) (k : Int) : Int := bestTo l fs k (allF fs)
theorem best_le {l : List It} {fs : List Fx} {k m : Int} (hk : 0 ≤ k) : m ≤ bestL l fs k ↔ ∀ c, Cho fs c → (withL l fs c).2 ≤ k → m ≤ partsL (withL l fs c).1 := by
  unfold bestL
  rw [bestTo_le]
  constructor
  · rintro ⟨_, h⟩ c hc; exact h c (all_mem.2 hc)
  · intro h; exact ⟨h [] (cho_nil fs) hk, fun c hc => h c (all_mem.1 hc)⟩
/-- Some choice has it. -/
theorem best_at {l : List It} {fs : List Fx} {k : Int} (hk : 0 ≤ k) : ∃ c, Cho fs c ∧ (withL l fs c).2 ≤ k ∧ partsL (withL l fs c).1 = bestL l fs k := by
  have h := (best_le (l := l) (fs := fs) hk).1 (Int.le_refl _)
  by_cases hx : ∃ c, Cho fs c ∧ (withL l fs c).2 ≤ k ∧ partsL (withL l fs c).1 = bestL l fs k
  · exact hx
  · have := (best_le (l := l) (fs := fs) (m := bestL l fs k + 1) hk).2 fun c hc hck => by
      have h1 := h c hc hck
      have h2 : partsL (withL l fs c).1 ≠ bestL l fs k := fun h' => hx ⟨c, hc, hck, h'⟩
      omega
    omega
theorem best_mono {l : List It} {fs : List Fx} {k j : Int} (hk : 0 ≤ k) (hj : k ≤ j) : bestL l fs j ≤ bestL l fs k :=
  (best_le hk).2 fun c hc hck => (best_le (by omega)).1 (Int.le_refl _) c hc (by omega)
theorem best_in {l : List It} {fs : List Fx} {k : Int} (h : vfE l fs = 0) (hk : 0 ≤ k) : 0 ≤ bestL l fs k ∧ bestL l fs k ≤ partsL l := by
  obtain ⟨c, hc, _, he⟩ := best_at (l := l) (fs := fs) hk
  obtain ⟨h1, h2, _⟩ := with_ok h hc
  rw [← he]
  exact ⟨(parts_bound h1).1, h2⟩
/-- As the program finds it: the least of the totals of options that cost at most so much. -/
def totTo (k : Int) (L : List Op) : List Int := (L.filter fun o => decide (o.k ≤ k)).map (·.p)
def minP : List Int → Int
  | [] => 0
  | a :: t => t.foldl (fun m x => if x < m then x else m) a
theorem min_le {m : Int} : ∀ (t : List Int) (a : Int), m ≤ t.foldl (fun m x => if x < m then x else m) a ↔ m ≤ a ∧ ∀ x ∈ t, m ≤ x
  | [], a => by simp
  | b :: t, a => by
    rw [List.foldl_cons, min_le t]
    constructor
    · rintro ⟨h1, h2⟩
      split at h1
      · exact ⟨by omega, fun x hx => by rcases List.mem_cons.1 hx with rfl | hx; exact h1; exact h2 x hx⟩
      · exact ⟨h1, fun x hx => by rcases List.mem_cons.1 hx with rfl | hx; omega; exact h2 x hx⟩
    · rintro ⟨h1, h2⟩
      refine ⟨?_, fun x hx => h2 x (by simp [hx])⟩
      split
      · exact h2 b (by simp)
      · exact h1
theorem best_o {l : List It} {fs : List Fx} {k : Int} (hn : fs.length ≤ 8) (hk : 0 ≤ k) : totTo k (optL l fs) ≠ [] ∧ minP (totTo k (optL l fs)) = bestL l fs k := by
  have hm : ∀ x, x ∈ totTo k (optL l fs) ↔ ∃ c, Cho fs c ∧ (withL l fs c).2 ≤ k ∧ x = partsL (withL l fs c).1 := fun x => by
    unfold totTo
    rw [List.mem_map]
    constructor
    · rintro ⟨o, ho, rfl⟩
      obtain ⟨h1, h2⟩ := List.mem_filter.1 ho
      obtain ⟨c, hc, rfl⟩ := (opt_mem hn).1 h1
      exact ⟨c, hc, of_decide_eq_true h2, rfl⟩
    · rintro ⟨c, hc, hck, rfl⟩
      exact ⟨opOf l fs c, List.mem_filter.2 ⟨(opt_mem hn).2 ⟨c, hc, rfl⟩, decide_eq_true hck⟩, rfl⟩
  have hne : totTo k (optL l fs) ≠ [] := by
    have := (hm _).2 ⟨[], cho_nil fs, hk, rfl⟩
    intro h; rw [h] at this; cases this
  refine ⟨hne, ?_⟩
  have hle : ∀ m, m ≤ minP (totTo k (optL l fs)) ↔ m ≤ bestL l fs k := fun m => by
    rw [best_le hk]
    have e : m ≤ minP (totTo k (optL l fs)) ↔ ∀ x ∈ totTo k (optL l fs), m ≤ x := by
      generalize totTo k (optL l fs) = L at *
      cases L with
      | nil => exact absurd rfl hne
      | cons a t =>
        show m ≤ t.foldl _ a ↔ _
        rw [min_le]
        constructor
        · rintro ⟨h1, h2⟩ x hx
          rcases List.mem_cons.1 hx with rfl | hx
          · exact h1
          · exact h2 x hx
        · intro h; exact ⟨h a (by simp), fun x hx => h x (by simp [hx])⟩
    rw [e]
    constructor
    · intro h c hc hck; exact h _ ((hm _).2 ⟨c, hc, hck, rfl⟩)
    · intro h x hx
      obtain ⟨c, hc, hck, rfl⟩ := (hm x).1 hx
      exact h c hc hck
  have h1 := (hle _).1 (Int.le_refl _)
  have h2 := (hle _).2 (Int.le_refl _)
  omega
/-- Closing by a total. -/
theorem close_rat {l : List It} {p : Int} : closeB l (rat p).1 (rat p).2 = decide (partsL l ≤ p) := by
  unfold closeB
  rw [Bool.eq_iff_iff, decide_eq_true_eq, decide_eq_true_eq, rat_cross]
  have hd := (rat_den p).1
  constructor
  · intro h
    exact Int.le_of_mul_le_mul_right h hd
  · intro h
    exact Int.mul_le_mul_of_nonneg_right h (Int.le_of_lt hd)
/-- The best total for a cost is paid by no less. -/
theorem pays {l : List It} {fs : List Fx} {k : Int} (hk : 0 ≤ k) : ∃ c n, Cheap l fs (rat (bestL l fs k)).1 (rat (bestL l fs k)).2 c n ∧ n ≤ k ∧ ∀ j, 0 ≤ j → j < n → bestL l fs k < bestL l fs j := by
  obtain ⟨c, hc, hck, he⟩ := best_at (l := l) (fs := fs) hk
  have hcl : closeB (withL l fs c).1 (rat (bestL l fs k)).1 (rat (bestL l fs k)).2 = true := by rw [close_rat]; exact decide_eq_true (by omega)
  rcases hR : cheapR l fs (rat (bestL l fs k)).1 (rat (bestL l fs k)).2 with _ | t
  · have := cheap_r_none hR hc
    rw [hcl] at this; cases this
  · have ht := cheap_r hR
    refine ⟨t.1, t.2, ht, Int.le_trans (ht.le hc hcl) hck, fun j hj hjn => ?_⟩
    rcases Int.lt_or_le (bestL l fs k) (bestL l fs j) with h | h
    · exact h
    · obtain ⟨d, hd, hdk, hde⟩ := best_at (l := l) (fs := fs) hj
      have := ht.le hd (by rw [close_rat]; exact decide_eq_true (by omega))
      omega
end Go.Proofs.Ytgbjglkiaoplmaa
