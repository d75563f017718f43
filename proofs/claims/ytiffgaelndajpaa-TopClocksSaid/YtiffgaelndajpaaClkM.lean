/- Jobs in time: what is right, the work done unit by unit, demands of stretches, and that urgency is never later than it must be. Lists and numbers alone. -/
namespace Go.Proofs.Ytiffgaelndajpaa

/-- Three numbers: a job's From, By and Need. -/
abbrev T3 := Int × Int × Int
def t0 : T3 := (0, 0, 0)

theorem getD_mem {l : List T3} {k : Nat} (h : k < l.length) : l.getD k t0 ∈ l := by simp [h]
theorem all_take {f : T3 → Bool} {p : List T3} {k : Nat} (h : k < p.length) : (p.take (k + 1)).all f = ((p.take k).all f && f (p.getD k t0)) := by
  rw [List.take_succ_eq_append_getElem h, List.all_append]; simp [h]
theorem all_no {f : T3 → Bool} {p : List T3} {k : Nat} (h : k < p.length) (hf : f (p.getD k t0) = false) : p.all f = false := by
  rw [List.all_eq_false]
  exact ⟨p[k], List.getElem_mem h, by simp [h] at hf; simp [hf]⟩

def inB (n lo hi : Int) : Bool := decide (lo ≤ n) && decide (n ≤ hi)
theorem inB_z {n lo hi : Int} : inB n lo hi = true ↔ lo ≤ n ∧ n ≤ hi := by simp [inB]
theorem inB_no {n lo hi : Int} : inB n lo hi = false ↔ ¬ (lo ≤ n ∧ n ≤ hi) := by rw [← inB_z]; simp

def jobB (a : T3) : Bool := decide (0 ≤ a.1) && decide (a.1 < a.2.1) && decide (a.2.1 ≤ 60) && inB a.2.2 1 60
def jobsE (l : List T3) : Int := if l.all jobB then 0 else 1
def validE (l : List T3) : Int := if l.length ≤ 8 then jobsE l else 3
/-- What a job is; one whose need is done in part. -/
structure Job4 (a : T3) : Prop where
  f0 : 0 ≤ a.1
  fb : a.1 < a.2.1
  b1 : a.2.1 ≤ 60
  n0 : 0 ≤ a.2.2
  n1 : a.2.2 ≤ 60
theorem jobB_job4 {a : T3} : jobB a = true ↔ Job4 a ∧ 1 ≤ a.2.2 := by
  simp only [jobB, Bool.and_eq_true, inB_z, decide_eq_true_eq]
  exact ⟨fun ⟨⟨⟨h1, h2⟩, h3⟩, h4, h5⟩ => ⟨⟨h1, h2, h3, by omega, h5⟩, h4⟩, fun ⟨⟨h1, h2, h3, _, h5⟩, h4⟩ => ⟨⟨⟨h1, h2⟩, h3⟩, h4, h5⟩⟩
def Jobs (l : List T3) : Prop := ∀ a ∈ l, Job4 a
theorem Jobs.get {l : List T3} (h : Jobs l) {k : Nat} (hk : k < l.length) : Job4 (l.getD k t0) := h _ (getD_mem hk)
theorem jobsE_zero {l : List T3} : jobsE l = 0 ↔ l.all jobB = true := by unfold jobsE; split <;> simp_all
theorem validE_zero {l : List T3} : validE l = 0 ↔ l.length ≤ 8 ∧ l.all jobB = true := by
  unfold validE
  by_cases h : l.length ≤ 8
  · rw [if_pos h, jobsE_zero]; exact ⟨fun x => ⟨h, x⟩, fun x => x.2⟩
  · rw [if_neg h]; exact ⟨fun x => (by cases x), fun x => absurd x.1 h⟩
/-- Jobs that are right. -/
structure Ok (l : List T3) : Prop where
  len : l.length ≤ 8
  jobs : Jobs l
  need : ∀ k, k < l.length → 1 ≤ (l.getD k t0).2.2
theorem validE_ok {l : List T3} : validE l = 0 ↔ Ok l := by
  rw [validE_zero, List.all_eq_true]
  constructor
  · rintro ⟨h1, h2⟩
    exact ⟨h1, fun a ha => (jobB_job4.1 (h2 a ha)).1, fun k hk => (jobB_job4.1 (h2 _ (getD_mem hk))).2⟩
  · rintro ⟨h1, h2, h3⟩
    refine ⟨h1, fun a ha => jobB_job4.2 ⟨h2 a ha, ?_⟩⟩
    obtain ⟨k, hk, rfl⟩ := List.getElem_of_mem ha
    have := h3 k hk
    simpa [hk] using this
theorem validE_cases (l : List T3) : validE l = 0 ∨ validE l = 1 ∨ validE l = 3 := by
  unfold validE jobsE
  split
  · split <;> simp
  · simp

/- Sums over the first n numbers. -/
def sumTo (f : Nat → Int) : Nat → Int
  | 0 => 0
  | k + 1 => sumTo f k + f k
theorem sumTo_le {f g : Nat → Int} : ∀ {n : Nat}, (∀ k, k < n → f k ≤ g k) → sumTo f n ≤ sumTo g n
  | 0, _ => Int.le_refl _
  | n + 1, h => by
    have h1 := sumTo_le (n := n) fun k hk => h k (by omega)
    have h2 := h n (by omega)
    simp only [sumTo]; omega
theorem sumTo_eq {f g : Nat → Int} : ∀ {n : Nat}, (∀ k, k < n → f k = g k) → sumTo f n = sumTo g n
  | 0, _ => rfl
  | n + 1, h => by simp only [sumTo]; rw [sumTo_eq (n := n) fun k hk => h k (by omega), h n (by omega)]
theorem sumTo_zero (n : Nat) : sumTo (fun _ => 0) n = 0 := by
  induction n with
  | zero => rfl
  | succ n ih => simp only [sumTo, ih]; rfl
theorem sumTo_add (f g : Nat → Int) : ∀ n, sumTo (fun k => f k + g k) n = sumTo f n + sumTo g n
  | 0 => rfl
  | n + 1 => by simp only [sumTo]; rw [sumTo_add f g n]; omega
theorem sumTo_nonneg {f : Nat → Int} {n : Nat} (h : ∀ k, k < n → 0 ≤ f k) : 0 ≤ sumTo f n := by
  rw [← sumTo_zero n]; exact sumTo_le h
theorem sumTo_ge {f : Nat → Int} : ∀ {n : Nat}, (∀ k, k < n → 0 ≤ f k) → ∀ k, k < n → f k ≤ sumTo f n
  | 0, _, k, hk => absurd hk (by omega)
  | n + 1, h, k, hk => by
    have h1 := sumTo_nonneg (f := f) (n := n) fun j hj => h j (by omega)
    have h2 := h n (by omega)
    simp only [sumTo]
    rcases Nat.lt_or_ge k n with x | x
    · have := sumTo_ge (n := n) (fun j hj => h j (by omega)) k x
      omega
    · obtain rfl : k = n := by omega
      omega
/-- One of them alone. -/
theorem sumTo_one (i : Nat) (x : Int) : ∀ n, sumTo (fun k => if k = i then x else 0) n = if i < n then x else 0
  | 0 => by simp [sumTo]
  | n + 1 => by
    simp only [sumTo]
    rw [sumTo_one i x n]
    by_cases h : n = i
    · subst h; simp
    · by_cases h2 : i < n
      · simp [h, h2, show i < n + 1 by omega]
      · simp [h, h2, show ¬ i < n + 1 by omega]
theorem sumTo_pos {f : Nat → Int} : ∀ {n : Nat}, 0 < sumTo f n → ∃ k, k < n ∧ 0 < f k
  | 0, h => by simp [sumTo] at h
  | n + 1, h => by
    simp only [sumTo] at h
    by_cases h1 : 0 < f n
    · exact ⟨n, by omega, h1⟩
    · obtain ⟨k, hk, hf⟩ := sumTo_pos (f := f) (n := n) (by omega)
      exact ⟨k, by omega, hf⟩

/- Demands. -/
def inS (a b : Int) (j : T3) : Bool := decide (a ≤ j.1) && decide (j.2.1 ≤ b)
theorem inS_z {a b : Int} {j : T3} : inS a b j = true ↔ a ≤ j.1 ∧ j.2.1 ≤ b := by simp [inS]
def dpart (l : List T3) (a b : Int) (k : Nat) : Int := if inS a b (l.getD k t0) then (l.getD k t0).2.2 else 0
def demTo (l : List T3) (a b : Int) (k : Nat) : Int := sumTo (dpart l a b) k
def dem (l : List T3) (a b : Int) : Int := demTo l a b l.length
theorem demTo_succ (l : List T3) (a b : Int) (k : Nat) : demTo l a b (k + 1) = demTo l a b k + (if inS a b (l.getD k t0) then (l.getD k t0).2.2 else 0) := rfl
theorem dpart_range {l : List T3} (h : Jobs l) (a b : Int) {k : Nat} (hk : k < l.length) : 0 ≤ dpart l a b k ∧ dpart l a b k ≤ 60 := by
  have := h.get hk
  have h0 := this.n0
  have h1 := this.n1
  unfold dpart; split <;> omega
theorem demTo_range {l : List T3} (h : Jobs l) (a b : Int) : ∀ {k : Nat}, k ≤ l.length → 0 ≤ demTo l a b k ∧ demTo l a b k ≤ 60 * k
  | 0, _ => by simp [demTo, sumTo]
  | k + 1, hk => by
    have h1 := demTo_range h a b (k := k) (by omega)
    have h2 := dpart_range h a b (k := k) (by omega)
    simp only [demTo, sumTo] at h1 ⊢; omega
theorem dem_range {l : List T3} (h : Ok l) (a b : Int) : 0 ≤ dem l a b ∧ dem l a b ≤ 480 := by
  have := demTo_range h.jobs a b (k := l.length) (Nat.le_refl _)
  have := h.len
  unfold dem; omega
theorem dem_nil (a b : Int) : dem [] a b = 0 := rfl
/-- A job whose stretch it is makes a demand. -/
theorem dem_of {l : List T3} (h : Ok l) {a b : Int} {k : Nat} (hk : k < l.length) (ha : a ≤ (l.getD k t0).1) (hb : (l.getD k t0).2.1 ≤ b) : 0 < dem l a b := by
  have h1 := sumTo_ge (f := dpart l a b) (n := l.length) (fun j hj => (dpart_range h.jobs a b hj).1) k hk
  have h2 := h.need k hk
  have h3 : dpart l a b k = (l.getD k t0).2.2 := by rw [dpart, if_pos (inS_z.2 ⟨ha, hb⟩)]
  unfold dem demTo; omega
theorem dem_some {l : List T3} {a b : Int} (h : 0 < dem l a b) : ∃ k, k < l.length ∧ a ≤ (l.getD k t0).1 ∧ (l.getD k t0).2.1 ≤ b := by
  obtain ⟨k, hk, hp⟩ := sumTo_pos h
  refine ⟨k, hk, ?_⟩
  unfold dpart at hp
  split at hp
  · rename_i h1; exact inS_z.1 h1
  · omega
/-- A wider stretch has no smaller demand; and only what lies from 0 to 60 counts. -/
theorem dem_tight {l : List T3} (h : Ok l) (a b : Int) : dem l (max a 0) (min b 60) = dem l a b := by
  refine sumTo_eq fun k hk => ?_
  have h4 := h.jobs.get hk
  have h1 := h4.f0
  have h2 := h4.b1
  have : inS (max a 0) (min b 60) (l.getD k t0) = inS a b (l.getD k t0) := by
    rw [Bool.eq_iff_iff, inS_z, inS_z]; omega
  simp only [dpart, this]

/- Work, unit by unit: whatever is picked. -/
def availB (L : List T3) (t : Nat) (k : Nat) : Bool := decide (0 < (L.getD k t0).2.2) && decide ((L.getD k t0).1 ≤ (t : Int))
theorem availB_z {L : List T3} {t k : Nat} : availB L t k = true ↔ 0 < (L.getD k t0).2.2 ∧ (L.getD k t0).1 ≤ (t : Int) := by simp [availB]
def decJ (j : T3) : T3 := (j.1, j.2.1, j.2.2 - 1)
def stepL (L : List T3) (f : Int) : List T3 := if f < 0 then L else L.set f.toNat (decJ (L.getD f.toNat t0))
/-- What is left after c units, if pk picks. -/
def leftG (pk : List T3 → Nat → Int) (l : List T3) : Nat → List T3
  | 0 => l
  | c + 1 => stepL (leftG pk l c) (pk (leftG pk l c) c)
def pickG (pk : List T3 → Nat → Int) (l : List T3) (c : Nat) : Int := pk (leftG pk l c) c
def sumN (L : List T3) : Int := sumTo (fun k => (L.getD k t0).2.2) L.length
/-- A way to pick: a job that can be done, if there is one. -/
def Picks (pk : List T3 → Nat → Int) (l : List T3) : Prop :=
  ∀ L t, L.length = l.length → (pk L t = -1 ∧ ∀ j, j < L.length → availB L t j = false) ∨ ∃ k : Nat, pk L t = (k : Int) ∧ k < L.length ∧ availB L t k = true

section
variable {pk : List T3 → Nat → Int} {l : List T3}
theorem stepL_len (L : List T3) (f : Int) : (stepL L f).length = L.length := by unfold stepL; split <;> simp
theorem leftG_len (pk : List T3 → Nat → Int) (l : List T3) : ∀ c, (leftG pk l c).length = l.length
  | 0 => rfl
  | c + 1 => by rw [leftG, stepL_len, leftG_len pk l c]
theorem stepL_get (L : List T3) (f : Int) (k : Nat) (hk : k < L.length) : (stepL L f).getD k t0 = ((L.getD k t0).1, (L.getD k t0).2.1, (L.getD k t0).2.2 - if f = (k : Int) then 1 else 0) := by
  unfold stepL
  by_cases hf : f < 0
  · rw [if_pos hf, if_neg (by omega)]; simp
  · rw [if_neg hf]
    by_cases e : f = (k : Int)
    · subst e
      rw [if_pos rfl]
      simp [List.getD_eq_getElem?_getD, hk, decJ]
    · rw [if_neg e, List.getD_eq_getElem?_getD, List.getElem?_set_ne (by omega), ← List.getD_eq_getElem?_getD]; simp
/-- How often k was picked, in the first c units. -/
def cntP (P : Nat → Bool) : Nat → Nat
  | 0 => 0
  | t + 1 => cntP P t + if P t then 1 else 0
theorem leftG_get (pk : List T3 → Nat → Int) (l : List T3) (k : Nat) (hk : k < l.length) : ∀ c, (leftG pk l c).getD k t0 = ((l.getD k t0).1, (l.getD k t0).2.1, (l.getD k t0).2.2 - cntP (fun t => pickG pk l t == (k : Int)) c)
  | 0 => by simp [leftG, cntP]
  | c + 1 => by
    have ih := leftG_get pk l k hk c
    rw [leftG, stepL_get _ _ _ (by rw [leftG_len]; exact hk), ih, cntP]
    show (_, _, _) = _
    by_cases e : pk (leftG pk l c) c = (k : Int)
    · have h1 : (pickG pk l c == (k : Int)) = true := by simpa [pickG] using e
      simp only [h1, e, if_true]
      rw [Int.natCast_add]
      simp only [Int.sub_sub]
      rfl
    · have h1 : (pickG pk l c == (k : Int)) = false := by simpa [pickG] using e
      simp [h1, e]
theorem sumN_step {L : List T3} {f : Nat} (hf : f < L.length) : sumN (stepL L f) = sumN L - 1 := by
  have h1 : sumN (stepL L f) = sumTo (fun k => (L.getD k t0).2.2 + if k = f then -1 else 0) L.length := by
    unfold sumN
    rw [stepL_len]
    refine sumTo_eq fun k hk => ?_
    rw [stepL_get _ _ _ hk]
    by_cases e : k = f
    · subst e; simp; omega
    · have : ¬ (f : Int) = (k : Int) := by omega
      simp [e, this]
  rw [h1, sumTo_add, sumTo_one, if_pos hf]; rfl
theorem stepL_none {L : List T3} : stepL L (-1) = L := rfl
theorem leftG_nonneg (hp : Picks pk l) (hl : Jobs l) : ∀ c, Jobs (leftG pk l c)
  | 0 => hl
  | c + 1 => by
    intro a ha
    obtain ⟨k, hk, rfl⟩ := List.getElem_of_mem ha
    have hk' : k < (leftG pk l c).length := by rw [leftG_len] at hk ⊢; exact hk
    have ih := (leftG_nonneg hp hl c).get hk'
    have e : (leftG pk l (c + 1))[k] = (leftG pk l (c + 1)).getD k t0 := by simp [hk]
    rw [e, leftG, stepL_get _ _ _ hk']
    by_cases h : pk (leftG pk l c) c = (k : Int)
    · rcases hp (leftG pk l c) c (leftG_len _ _ _) with ⟨h1, _⟩ | ⟨k', h1, h2, h3⟩
      · omega
      · obtain rfl : k' = k := by omega
        have h4 := (availB_z.1 h3).1
        have h5 := ih.n1
        rw [if_pos h]
        generalize ((leftG pk l c).getD k' t0).2.2 = z at *
        exact ⟨ih.f0, ih.fb, ih.b1, by show 0 ≤ z - 1; omega, by show z - 1 ≤ 60; omega⟩
    · rw [if_neg h, Int.sub_zero]
      exact ih
theorem sumN_nonneg {L : List T3} (h : Jobs L) : 0 ≤ sumN L := sumTo_nonneg fun _ hk => (h.get hk).n0
theorem sumN_zero {L : List T3} (h : Jobs L) : sumN L = 0 ↔ ∀ k, k < L.length → (L.getD k t0).2.2 = 0 := by
  constructor
  · intro e k hk
    have h1 := sumTo_ge (f := fun k => (L.getD k t0).2.2) (n := L.length) (fun j hj => (h.get hj).n0) k hk
    have h2 := (h.get hk).n0
    unfold sumN at e
    omega
  · intro hz
    have := sumTo_eq (f := fun k => (L.getD k t0).2.2) (g := fun _ => 0) (n := L.length) hz
    unfold sumN
    rw [this, sumTo_zero]
/-- Something is done in each unit, or time goes on to a From. -/
theorem sumN_less (hp : Picks pk l) (hl : Jobs l) (c : Nat) (h : 0 < sumN (leftG pk l c)) :
    (sumN (leftG pk l (c + 1)) = sumN (leftG pk l c) - 1 ∧ 0 ≤ pickG pk l c) ∨ (sumN (leftG pk l (c + 1)) = sumN (leftG pk l c) ∧ pickG pk l c = -1 ∧ c < 60) := by
  have hj := leftG_nonneg hp hl c
  rcases hp (leftG pk l c) c (leftG_len _ _ _) with ⟨h1, h2⟩ | ⟨k, h1, h2, h3⟩
  · right
    refine ⟨by rw [leftG, h1, stepL_none], h1, ?_⟩
    obtain ⟨k, hk, hn⟩ := sumTo_pos h
    have h3 := h2 k hk
    have h4 := hj.get hk
    have h5 := h4.fb
    have h6 := h4.b1
    rw [← Bool.not_eq_true, availB_z] at h3
    omega
  · left
    refine ⟨by rw [leftG, h1, sumN_step h2], ?_⟩
    rw [pickG, h1]; omega
theorem sumN_le {l : List T3} (h : Jobs l) (h8 : l.length ≤ 8) : sumN l ≤ 480 := by
  have h1 := sumTo_le (f := fun k => (l.getD k t0).2.2) (g := fun _ => 60) (n := l.length) fun k hk => (h.get hk).n1
  have h2 : ∀ n : Nat, sumTo (fun _ => 60) n = 60 * n := by
    intro n
    induction n with
    | zero => rfl
    | succ n ih => simp only [sumTo, ih]; omega
  rw [h2] at h1
  unfold sumN; omega
/-- The work ends. -/
theorem ends_by (hp : Picks pk l) (hl : Jobs l) : ∀ (m : Nat) (c : Nat), sumN (leftG pk l c) + (60 - c : Nat) ≤ m → ∃ N, c ≤ N ∧ N ≤ c + m ∧ sumN (leftG pk l N) = 0 ∧ ∀ t, c ≤ t → t < N → 0 < sumN (leftG pk l t)
  | 0, c, h => by
    have := sumN_nonneg (leftG_nonneg hp hl c)
    exact ⟨c, Nat.le_refl _, by omega, by omega, fun t h1 h2 => by omega⟩
  | m + 1, c, h => by
    have h0 := sumN_nonneg (leftG_nonneg hp hl c)
    by_cases hz : sumN (leftG pk l c) = 0
    · exact ⟨c, Nat.le_refl _, by omega, hz, fun t h1 h2 => by omega⟩
    · have hpos : 0 < sumN (leftG pk l c) := by omega
      have hn : sumN (leftG pk l (c + 1)) + (60 - (c + 1) : Nat) ≤ m := by
        rcases sumN_less hp hl c hpos with ⟨h1, _⟩ | ⟨h1, _, h2⟩ <;> omega
      obtain ⟨N, h1, h2, h3, h4⟩ := ends_by hp hl m (c + 1) hn
      refine ⟨N, by omega, by omega, h3, fun t ht1 ht2 => ?_⟩
      rcases Nat.lt_or_ge c t with x | x
      · exact h4 t (by omega) ht2
      · obtain rfl : t = c := by omega
        exact hpos
end
/-- How many units there are. -/
def lenG (pk : List T3 → Nat → Int) (l : List T3) : Nat := ((List.range 541).find? fun c => sumN (leftG pk l c) == 0).getD 0
section
variable {pk : List T3 → Nat → Int} {l : List T3}
theorem find_range (p : Nat → Bool) (n N : Nat) (hN : N < n) (hp : p N = true) (hlt : ∀ t, t < N → p t = false) : (List.range n).find? p = some N := by
  rw [List.find?_eq_some_iff_append]
  refine ⟨hp, List.range N, (List.range (n - N - 1)).map (N + 1 + ·), ?_, fun a ha => by simp [hlt a (by simpa using ha)]⟩
  have e : n = N + (1 + (n - N - 1)) := by omega
  conv => lhs; rw [e]
  rw [List.range_add, List.range_add]
  simp [List.range_succ, Function.comp_def, Nat.add_assoc]
theorem lenG_spec (hp : Picks pk l) (hl : Ok l) : lenG pk l ≤ 540 ∧ sumN (leftG pk l (lenG pk l)) = 0 ∧ ∀ t, t < lenG pk l → 0 < sumN (leftG pk l t) := by
  have h0 := sumN_le hl.jobs hl.len
  obtain ⟨N, _, h2, h3, h4⟩ := ends_by hp hl.jobs 540 0 (by rw [leftG]; omega)
  have e : lenG pk l = N := by
    unfold lenG
    rw [find_range _ 541 N (by omega) (by simp [h3]) (fun t ht => by have := h4 t (by omega) ht; simp; omega)]
    rfl
  rw [e]
  exact ⟨by omega, h3, fun t ht => h4 t (by omega) ht⟩
/-- Each job is done as often as it needs. -/
theorem done_all (hp : Picks pk l) (hl : Ok l) {k : Nat} (hk : k < l.length) : (cntP (fun t => pickG pk l t == (k : Int)) (lenG pk l) : Int) = (l.getD k t0).2.2 := by
  obtain ⟨_, h2, _⟩ := lenG_spec hp hl
  have h3 := (sumN_zero (leftG_nonneg hp hl.jobs _)).1 h2 k (by rw [leftG_len]; exact hk)
  rw [leftG_get _ _ _ hk] at h3
  simp only [] at h3
  omega
/-- What is picked. -/
theorem pick_is (hp : Picks pk l) (c : Nat) : (pickG pk l c = -1 ∧ ∀ j, j < l.length → availB (leftG pk l c) c j = false) ∨ ∃ k : Nat, pickG pk l c = (k : Int) ∧ k < l.length ∧ (l.getD k t0).1 ≤ (c : Int) ∧ 0 < ((leftG pk l c).getD k t0).2.2 := by
  rcases hp (leftG pk l c) c (leftG_len _ _ _) with ⟨h1, h2⟩ | ⟨k, h1, h2, h3⟩
  · exact .inl ⟨h1, fun j hj => h2 j (by rw [leftG_len]; exact hj)⟩
  · have hk : k < l.length := by rw [leftG_len] at h2; exact h2
    obtain ⟨h4, h5⟩ := availB_z.1 h3
    rw [leftG_get _ _ _ hk] at h5
    exact .inr ⟨k, h1, hk, h5, h4⟩
end

/- Counting units. -/
theorem cntP_window {P : Nat → Bool} {a E : Nat} : ∀ {N : Nat}, (∀ t, t < N → P t = true → a ≤ t ∧ t < E) → cntP P N ≤ min N E - a
  | 0, _ => by simp [cntP]
  | N + 1, h => by
    have ih := cntP_window (P := P) (N := N) fun t ht => h t (by omega)
    simp only [cntP]
    by_cases hp : P N = true
    · have := h N (by omega) hp
      rw [if_pos hp]; omega
    · rw [if_neg hp]; omega
theorem cntP_mono (P : Nat → Bool) {m n : Nat} (h : m ≤ n) : cntP P m ≤ cntP P n := by
  induction n with
  | zero => obtain rfl : m = 0 := by omega
            exact Nat.le_refl _
  | succ n ih =>
    rcases Nat.lt_or_ge n m with x | x
    · obtain rfl : m = n + 1 := by omega
      exact Nat.le_refl _
    · have := ih x
      simp only [cntP]; omega
theorem cntP_ge {P : Nat → Bool} {a : Nat} : ∀ {E : Nat}, (∀ t, a ≤ t → t < E → P t = true) → E - a ≤ cntP P E
  | 0, _ => by omega
  | E + 1, h => by
    have ih := cntP_ge (P := P) (a := a) (E := E) fun t h1 h2 => h t h1 (by omega)
    simp only [cntP]
    by_cases hp : a ≤ E
    · rw [if_pos (h E hp (by omega))]; omega
    · omega
/-- The units of a set of jobs are those of its jobs together. -/
theorem cntP_split (T : Nat → Int) (S : Nat → Bool) (n : Nat) : ∀ N, (cntP (fun t => decide (0 ≤ T t) && decide (T t < (n : Int)) && S (T t).toNat) N : Int) = sumTo (fun k => if S k then (cntP (fun t => T t == (k : Int)) N : Int) else 0) n
  | 0 => by
    have : (fun k => if S k then ((cntP (fun t => T t == (k : Int)) 0 : Nat) : Int) else 0) = fun _ => 0 := by
      funext k; simp [cntP]
    rw [this, sumTo_zero]; rfl
  | N + 1 => by
    have ih := cntP_split T S n N
    simp only [cntP]
    have e : sumTo (fun k => if S k then ((cntP (fun t => T t == (k : Int)) N + (if (T N == (k : Int)) = true then 1 else 0) : Nat) : Int) else 0) n
        = sumTo (fun k => (if S k then (cntP (fun t => T t == (k : Int)) N : Int) else 0) + (if k = (T N).toNat then (if decide (0 ≤ T N) && S (T N).toNat then 1 else 0) else 0)) n := by
      refine sumTo_eq fun k _ => ?_
      by_cases hk : T N = (k : Int)
      · have h1 : k = (T N).toNat := by omega
        have h2 : (T N == (k : Int)) = true := by simpa using hk
        have h3 : decide (0 ≤ T N) = true := by simp; omega
        rw [h2, h3, if_pos h1, ← h1]
        by_cases hs : S k = true
        · simp [hs]
        · simp [hs]
      · have h2 : (T N == (k : Int)) = false := by simpa using hk
        rw [h2]
        by_cases h1 : k = (T N).toNat
        · have h3 : ¬ 0 ≤ T N := by omega
          simp [h3]
        · simp [h1]
    rw [e, sumTo_add, ← ih, sumTo_one]
    by_cases h1 : 0 ≤ T N
    · by_cases h2 : T N < (n : Int)
      · have h3 : (T N).toNat < n := by omega
        by_cases hs : S (T N).toNat = true
        · simp [h1, h2, h3, hs]
        · simp [h1, h2, h3, hs]
      · have h3 : ¬ (T N).toNat < n := by omega
        simp [h1, h2, h3]
    · simp [h1]

/-- The units in which a job of a stretch is done are as many as the demand. -/
theorem dem_units {T : Nat → Int} {N : Nat} {l : List T3} (hc : ∀ k, k < l.length → (cntP (fun t => T t == (k : Int)) N : Int) = (l.getD k t0).2.2) (a b : Int) : dem l a b = (cntP (fun t => decide (0 ≤ T t) && decide (T t < (l.length : Int)) && inS a b (l.getD (T t).toNat t0)) N : Int) := by
  rw [cntP_split T (fun k => inS a b (l.getD k t0))]
  refine sumTo_eq fun k hk => ?_
  rw [hc k hk]; rfl
/-- Whatever is done first, a stretch is later than its demand. -/
theorem late_ge {T : Nat → Int} {N : Nat} {l : List T3} (hc : ∀ k, k < l.length → (cntP (fun t => T t == (k : Int)) N : Int) = (l.getD k t0).2.2)
    (hF : ∀ (t k : Nat), t < N → k < l.length → T t = (k : Int) → (l.getD k t0).1 ≤ (t : Int)) {M : Int} (hM : ∀ (t k : Nat), t < N → k < l.length → T t = (k : Int) → (t : Int) + 1 - (l.getD k t0).2.1 ≤ M) (a b : Int) (hd : 0 < dem l a b) : dem l a b - (b - a) ≤ M := by
  have h1 := dem_units hc a b
  have h2 := cntP_window (P := fun t => decide (0 ≤ T t) && decide (T t < (l.length : Int)) && inS a b (l.getD (T t).toNat t0)) (a := a.toNat) (E := (b + M).toNat) (N := N) fun t ht hS => by
    simp only [Bool.and_eq_true, decide_eq_true_eq, inS_z] at hS
    obtain ⟨⟨h3, h4⟩, h5, h6⟩ := hS
    have h7 := hM t (T t).toNat ht (by omega) (by omega)
    have h8 := hF t (T t).toNat ht (by omega) (by omega)
    omega
  omega
section
variable {pk : List T3 → Nat → Int} {l : List T3}
theorem pick_from (hp : Picks pk l) (t k : Nat) (_hk : k < l.length) (h : pickG pk l t = (k : Int)) : (l.getD k t0).1 ≤ (t : Int) := by
  rcases pick_is hp t with ⟨h1, _⟩ | ⟨k', h1, _, h3, _⟩
  · omega
  · obtain rfl : k' = k := by omega
    exact h3
end
end Go.Proofs.Ytiffgaelndajpaa
