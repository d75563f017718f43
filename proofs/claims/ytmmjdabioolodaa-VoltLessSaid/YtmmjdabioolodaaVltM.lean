/- Voltages, the fields that they make, all voltages in ascending order, and which of them make a wish. Lists and numbers alone. -/
namespace Go.Proofs.Ytmmjdabioolodaa

def inB (n lo hi : Int) : Bool := decide (lo ≤ n) && decide (n ≤ hi)
theorem inB_z {n lo hi : Int} : inB n lo hi = true ↔ lo ≤ n ∧ n ≤ hi := by simp [inB]
theorem inB_no {n lo hi : Int} : inB n lo hi = false ↔ ¬ (lo ≤ n ∧ n ≤ hi) := by rw [← inB_z]; simp

/-- Whether all of the first n are. -/
def allTo (f : Nat → Bool) : Nat → Bool
  | 0 => true
  | k + 1 => allTo f k && f k
theorem allTo_iff {f : Nat → Bool} : ∀ {n : Nat}, allTo f n = true ↔ ∀ k, k < n → f k = true
  | 0 => ⟨fun _ k hk => absurd hk (by omega), fun _ => rfl⟩
  | n + 1 => by
    simp only [allTo, Bool.and_eq_true]
    rw [allTo_iff (n := n)]
    constructor
    · rintro ⟨h1, h2⟩ k hk
      rcases Nat.lt_or_ge k n with h | h
      · exact h1 k h
      · rw [show k = n by omega]; exact h2
    · exact fun h => ⟨fun k hk => h k (by omega), h n (by omega)⟩
theorem allTo_no {f : Nat → Bool} {n k : Nat} (hk : k < n) (hf : f k = false) : allTo f n = false := by
  rcases h : allTo f n with _ | _
  · rfl
  · rw [allTo_iff.1 h k hk] at hf; cases hf

/-- A list of n numbers from -m to m. -/
def okN (l : List Int) (n : Nat) (m : Int) : Bool := decide (l.length = n) && allTo (fun i => inB (l.getD i 0) (-m) m) l.length
structure OkV (l : List Int) (n : Nat) (m : Int) : Prop where
  len : l.length = n
  at_ : ∀ k, -m ≤ l.getD k 0 ∧ l.getD k 0 ≤ m
theorem okN_iff {l : List Int} {n : Nat} {m : Int} (hm : 0 ≤ m) : okN l n m = true ↔ OkV l n m := by
  unfold okN
  rw [Bool.and_eq_true, decide_eq_true_eq, allTo_iff]
  constructor
  · rintro ⟨h1, h2⟩
    refine ⟨h1, fun k => ?_⟩
    rcases Nat.lt_or_ge k l.length with h | h
    · exact inB_z.1 (h2 k h)
    · rw [List.getD_eq_getElem?_getD, List.getElem?_eq_none h]; simp; omega
  · rintro ⟨h1, h2⟩
    exact ⟨h1, fun k _ => inB_z.2 (h2 k)⟩

/-- How many electrodes gains have. -/
def wires (g : List (List Int)) : Nat := (g.getD 0 []).length
def okG (g : List (List Int)) : Bool := inB (g.length : Int) 1 3 && (inB (wires g : Int) 1 3 && allTo (fun i => okN (g.getD i []) (wires g) 9) g.length)
structure OkG (g : List (List Int)) : Prop where
  pts : 1 ≤ g.length ∧ g.length ≤ 3
  wrs : 1 ≤ wires g ∧ wires g ≤ 3
  row : ∀ i, i < g.length → OkV (g.getD i []) (wires g) 9
theorem okG_iff {g : List (List Int)} : okG g = true ↔ OkG g := by
  unfold okG
  rw [Bool.and_eq_true, Bool.and_eq_true, inB_z, inB_z, allTo_iff]
  constructor
  · rintro ⟨h1, h2, h3⟩
    exact ⟨by omega, by omega, fun i hi => (okN_iff (by decide)).1 (h3 i hi)⟩
  · rintro ⟨h1, h2, h3⟩
    exact ⟨by omega, by omega, fun i hi => (okN_iff (by decide)).2 (h3 i hi)⟩
/-- The errors: 1 is ErrArg. -/
def errB (b : Bool) : Int := if b = true then 0 else 1
theorem errB_t : errB true = 0 := rfl
theorem errB_f : errB false = 1 := rfl
theorem errB_zero {b : Bool} : errB b = 0 ↔ b = true := by cases b <;> simp [errB]
def okW (g : List (List Int)) (w : List Int) : Bool := okN w g.length 1000
def okL (g : List (List Int)) (v : List Int) : Bool := okN v (wires g) 3
def okR (g row : List (List Int)) : Bool := inB (row.length : Int) 1 5 && allTo (fun i => okW g (row.getD i [])) row.length
structure OkR (g row : List (List Int)) : Prop where
  len : 1 ≤ row.length ∧ row.length ≤ 5
  row : ∀ i, i < row.length → OkV (row.getD i []) g.length 1000
theorem okR_iff {g row : List (List Int)} : okR g row = true ↔ OkR g row := by
  unfold okR
  rw [Bool.and_eq_true, inB_z, allTo_iff]
  constructor
  · rintro ⟨h1, h3⟩
    exact ⟨by omega, fun i hi => (okN_iff (by decide)).1 (h3 i hi)⟩
  · rintro ⟨h1, h3⟩
    exact ⟨by omega, fun i hi => (okN_iff (by decide)).2 (h3 i hi)⟩

/-! The field. -/
def dotTo (g v : List Int) : Nat → Int
  | 0 => 0
  | k + 1 => dotTo g v k + g.getD k 0 * v.getD k 0
def fAt (g : List (List Int)) (v : List Int) (i : Nat) : Int := dotTo (g.getD i []) v (wires g)
def fieldL (g : List (List Int)) (v : List Int) : List Int := (List.range g.length).map (fAt g v)
@[simp] theorem fieldL_len (g : List (List Int)) (v : List Int) : (fieldL g v).length = g.length := by simp [fieldL]
theorem fieldL_get {g : List (List Int)} {v : List Int} {i : Nat} (h : i < g.length) : (fieldL g v).getD i 0 = fAt g v i := by simp [fieldL, h]
theorem mul_bound {a b m n : Int} (hm : 0 ≤ m) (hn : 0 ≤ n) (h1 : -m ≤ a ∧ a ≤ m) (h2 : -n ≤ b ∧ b ≤ n) : -(m * n) ≤ a * b ∧ a * b ≤ m * n := by
  have h : a.natAbs * b.natAbs ≤ m.natAbs * n.natAbs := Nat.mul_le_mul (by omega) (by omega)
  have e1 : (a * b).natAbs = a.natAbs * b.natAbs := Int.natAbs_mul a b
  have e2 : (m * n).natAbs = m.natAbs * n.natAbs := Int.natAbs_mul m n
  have e3 : 0 ≤ m * n := Int.mul_nonneg hm hn
  rw [← e1, ← e2] at h
  omega
theorem dot_bound {g v : List Int} {n : Nat} (hg : OkV g n 9) (hv : OkV v n 3) : ∀ k : Nat, -(27 * (k : Int)) ≤ dotTo g v k ∧ dotTo g v k ≤ 27 * (k : Int)
  | 0 => by simp [dotTo]
  | k + 1 => by
    have h := dot_bound hg hv k
    have h2 := mul_bound (by decide) (by decide) (hg.at_ k) (hv.at_ k)
    simp only [dotTo]
    omega
theorem prod_bound {g v : List Int} {n : Nat} (hg : OkV g n 9) (hv : OkV v n 3) (k : Nat) : -27 ≤ g.getD k 0 * v.getD k 0 ∧ g.getD k 0 * v.getD k 0 ≤ 27 := by
  have h2 := mul_bound (by decide) (by decide) (hg.at_ k) (hv.at_ k)
  omega
theorem field_bound {g : List (List Int)} {v : List Int} (hg : OkG g) (hv : OkV v (wires g) 3) : OkV (fieldL g v) g.length 81 := by
  refine ⟨by simp, fun k => ?_⟩
  rcases Nat.lt_or_ge k g.length with h | h
  · rw [fieldL_get h]
    have := dot_bound (hg.row k h) hv (wires g)
    have h3 := hg.wrs
    unfold fAt
    omega
  · rw [List.getD_eq_getElem?_getD, List.getElem?_eq_none (by simpa using h)]; simp

/-! All voltages. -/
def vAt : Nat → Nat → List Int
  | 0, _ => []
  | n + 1, i => vAt n (i / 7) ++ [(-3 : Int) + ((i % 7 : Nat) : Int)]
@[simp] theorem vAt_len : ∀ n i, (vAt n i).length = n
  | 0, _ => rfl
  | n + 1, i => by simp [vAt, vAt_len n]
theorem getD_append_l {a b : List Int} {k : Nat} (h : k < a.length) : (a ++ b).getD k 0 = a.getD k 0 := by
  simp only [List.getD_eq_getElem?_getD]; rw [List.getElem?_append_left h]
theorem getD_append_r {a b : List Int} {k : Nat} (h : a.length ≤ k) : (a ++ b).getD k 0 = b.getD (k - a.length) 0 := by
  simp only [List.getD_eq_getElem?_getD]; rw [List.getElem?_append_right h]
theorem getD_out {a : List Int} {k : Nat} (h : a.length ≤ k) : a.getD k 0 = 0 := by
  rw [List.getD_eq_getElem?_getD, List.getElem?_eq_none h]; rfl
theorem vAt_in : ∀ n i k, -3 ≤ (vAt n i).getD k 0 ∧ (vAt n i).getD k 0 ≤ 3
  | 0, i, k => by simp [vAt]
  | n + 1, i, k => by
    rcases Nat.lt_or_ge k n with h | h
    · rw [vAt, getD_append_l (by simpa using h)]; exact vAt_in n _ k
    · rw [vAt, getD_append_r (by simpa using h), vAt_len]
      rcases Nat.eq_zero_or_pos (k - n) with h0 | h0
      · rw [h0]; have := Nat.mod_lt i (show 0 < 7 by omega); simp; omega
      · rw [getD_out (by simp; omega)]; omega
theorem vAt_ok (n i : Nat) : OkV (vAt n i) n 3 := ⟨vAt_len n i, vAt_in n i⟩
theorem vAt_row (n k j : Nat) (h : j < 7) : vAt (n + 1) (k * 7 + j) = vAt n k ++ [(-3 : Int) + (j : Int)] := by
  have e1 : (k * 7 + j) / 7 = k := by omega
  have e2 : (k * 7 + j) % 7 = j := by omega
  rw [vAt, e1, e2]
theorem vAt_inj : ∀ n i j, i < 7 ^ n → j < 7 ^ n → vAt n i = vAt n j → i = j
  | 0, i, j, hi, hj, _ => by simp at hi hj; omega
  | n + 1, i, j, hi, hj, h => by
    obtain ⟨h1, h2⟩ := List.append_inj h (by simp)
    have h3 : i % 7 = j % 7 := by injection h2 with h2; omega
    rw [Nat.pow_succ] at hi hj
    have h4 := vAt_inj n _ _ (by omega) (by omega) h1
    omega
theorem vAt_of : ∀ (n : Nat) (v : List Int), OkV v n 3 → ∃ i, i < 7 ^ n ∧ vAt n i = v
  | 0, v, h => ⟨0, by simp, by have := h.len; rw [List.length_eq_zero_iff.1 this]; rfl⟩
  | n + 1, v, h => by
    have hl := h.len
    have hne : v ≠ [] := by intro e; rw [e] at hl; simp at hl
    have hd : v = v.dropLast ++ [v.getLast hne] := (List.dropLast_concat_getLast hne).symm
    have hdl : v.dropLast.length = n := by simp [hl]
    have hat : ∀ k, k < n → v.dropLast.getD k 0 = v.getD k 0 := fun k hk => by
      conv => rhs; rw [hd]
      rw [getD_append_l (by omega)]
    obtain ⟨i, hi, he⟩ := vAt_of n v.dropLast ⟨hdl, fun k => by
      rcases Nat.lt_or_ge k n with hk | hk
      · rw [hat k hk]; exact h.at_ k
      · rw [getD_out (by omega)]; omega⟩
    have hlast : v.getD n 0 = v.getLast hne := by
      conv => lhs; rw [hd]
      rw [getD_append_r (by omega), hdl]; simp
    have hb := h.at_ n
    rw [hlast] at hb
    refine ⟨i * 7 + (v.getLast hne + 3).toNat, ?_, ?_⟩
    · rw [Nat.pow_succ]; omega
    · rw [vAt_row n i _ (by omega), he]
      conv => rhs; rw [hd]
      congr 2
      omega
def voltsTo (n k : Nat) : List (List Int) := (List.range k).map (vAt n)
def voltsL (n : Nat) : List (List Int) := voltsTo n (7 ^ n)
theorem voltsTo_succ (n k : Nat) : voltsTo n (k + 1) = voltsTo n k ++ [vAt n k] := by simp [voltsTo, List.range_succ]
@[simp] theorem voltsTo_len (n k : Nat) : (voltsTo n k).length = k := by simp [voltsTo]
theorem voltsTo_get {n k i : Nat} (h : i < k) : (voltsTo n k).getD i [] = vAt n i := by simp [voltsTo, h]
@[simp] theorem voltsL_len (n : Nat) : (voltsL n).length = 7 ^ n := by simp [voltsL]
theorem volts_all (n : Nat) : voltsTo (n + 1) (7 ^ n * 7) = voltsL (n + 1) := rfl
theorem volts_pre (n k : Nat) (h : k < 7 ^ n) : ∃ t, voltsL n = voltsTo n k ++ vAt n k :: t := by
  refine ⟨(List.range (7 ^ n - (k + 1))).map (fun j => vAt n (k + 1 + j)), ?_⟩
  have : 7 ^ n = k + 1 + (7 ^ n - (k + 1)) := by omega
  unfold voltsL
  rw [this]
  unfold voltsTo
  rw [List.range_add, List.map_append, List.range_succ]
  simp [Function.comp_def]
theorem volts_of (n k : Nat) (h : k ≤ 7 ^ n) : ∃ t, voltsL n = voltsTo n k ++ t := by
  refine ⟨(List.range (7 ^ n - k)).map (fun j => vAt n (k + j)), ?_⟩
  have : 7 ^ n = k + (7 ^ n - k) := by omega
  unfold voltsL
  rw [this]
  unfold voltsTo
  rw [List.range_add, List.map_append]
  simp [Function.comp_def]
theorem mem_volts {n : Nat} {v : List Int} : v ∈ voltsL n ↔ OkV v n 3 := by
  unfold voltsL voltsTo
  rw [List.mem_map]
  constructor
  · rintro ⟨i, _, rfl⟩; exact vAt_ok n i
  · intro h
    obtain ⟨i, hi, he⟩ := vAt_of n v h
    exact ⟨i, List.mem_range.2 hi, he⟩
theorem volts_nodup (n : Nat) : (voltsL n).Nodup := by
  rw [List.nodup_iff_pairwise_ne, voltsL, voltsTo, List.pairwise_map]
  refine List.Pairwise.imp_of_mem (fun {a b} ha hb hab h => ?_) List.pairwise_lt_range
  rw [List.mem_range] at ha hb
  exact absurd (vAt_inj n a b ha hb h) (by omega)
theorem pow_le {n : Nat} (h : n ≤ 3) : 7 ^ n ≤ 343 := by
  have : ∀ n : Fin 4, 7 ^ n.val ≤ 343 := by decide +kernel
  exact this ⟨n, by omega⟩
theorem pow_pos' (n : Nat) : 0 < 7 ^ n := Nat.pow_pos (by decide)

/-! Those that make a wish. -/
def makeB (g : List (List Int)) (w v : List Int) : Bool := fieldL g v == w
theorem makeB_iff {g : List (List Int)} {w v : List Int} : makeB g w v = true ↔ fieldL g v = w := by simp [makeB]
def makersTo (g : List (List Int)) (w : List Int) (k : Nat) : List (List Int) := (voltsTo (wires g) k).filter (makeB g w)
def makersL (g : List (List Int)) (w : List Int) : List (List Int) := (voltsL (wires g)).filter (makeB g w)
theorem makersTo_yes {g : List (List Int)} {w : List Int} {k : Nat} (h : makeB g w (vAt (wires g) k) = true) : makersTo g w (k + 1) = makersTo g w k ++ [vAt (wires g) k] := by
  simp [makersTo, voltsTo_succ, List.filter_append, h]
theorem makersTo_no {g : List (List Int)} {w : List Int} {k : Nat} (h : makeB g w (vAt (wires g) k) = false) : makersTo g w (k + 1) = makersTo g w k := by
  simp [makersTo, voltsTo_succ, List.filter_append, h]
theorem makersTo_len (g : List (List Int)) (w : List Int) (k : Nat) : (makersTo g w k).length ≤ k := by
  have := List.length_filter_le (makeB g w) (voltsTo (wires g) k); simpa [makersTo] using this
theorem makersTo_all (g : List (List Int)) (w : List Int) : makersTo g w (7 ^ wires g) = makersL g w := rfl
theorem makers_pre {g : List (List Int)} {w : List Int} {k : Nat} (h : k < 7 ^ wires g) (hm : makeB g w (vAt (wires g) k) = true) : ∃ t, makersL g w = makersTo g w k ++ vAt (wires g) k :: t := by
  obtain ⟨t, ht⟩ := volts_pre (wires g) k h
  refine ⟨t.filter (makeB g w), ?_⟩
  unfold makersL makersTo
  rw [ht, List.filter_append, List.filter_cons, if_pos hm]
theorem makers_of {g : List (List Int)} {w : List Int} {k : Nat} (h : k ≤ 7 ^ wires g) : ∃ t, makersL g w = makersTo g w k ++ t := by
  obtain ⟨t, ht⟩ := volts_of (wires g) k h
  exact ⟨t.filter (makeB g w), by unfold makersL makersTo; rw [ht, List.filter_append]⟩
theorem mem_makers {g : List (List Int)} {w v : List Int} : v ∈ makersL g w ↔ OkV v (wires g) 3 ∧ fieldL g v = w := by
  unfold makersL
  rw [List.mem_filter, mem_volts, makeB_iff]
theorem makers_nodup (g : List (List Int)) (w : List Int) : (makersL g w).Nodup := (volts_nodup _).sublist List.filter_sublist
theorem makers_len (g : List (List Int)) (w : List Int) (h : wires g ≤ 3) : (makersL g w).length ≤ 343 :=
  Nat.le_trans (makersTo_len g w _) (pow_le h)
theorem makers_volts {g : List (List Int)} {w v : List Int} (h : v ∈ makersL g w) : v.length = wires g := (mem_makers.1 h).1.len

/-! The opposite wish. -/
def negL (l : List Int) : List Int := l.map fun x => -x
@[simp] theorem negL_len (l : List Int) : (negL l).length = l.length := by simp [negL]
theorem negL_get (l : List Int) (k : Nat) : (negL l).getD k 0 = -(l.getD k 0) := by
  rcases Nat.lt_or_ge k l.length with h | h
  · simp [negL, h]
  · rw [getD_out (by simpa using h), getD_out h]; rfl
theorem negL_neg (l : List Int) : negL (negL l) = l := by
  unfold negL; rw [List.map_map]
  conv => rhs; rw [← List.map_id l]
  refine List.map_congr_left fun x _ => ?_
  show - -x = x
  omega
theorem ok_neg {l : List Int} {n : Nat} {m : Int} (h : OkV l n m) : OkV (negL l) n m := ⟨by simp [h.len], fun k => by rw [negL_get]; have := h.at_ k; omega⟩
theorem dot_neg (g v : List Int) : ∀ k, dotTo g (negL v) k = -(dotTo g v k)
  | 0 => rfl
  | k + 1 => by rw [dotTo, dotTo, dot_neg g v k, negL_get, Int.mul_neg]; omega
theorem field_neg (g : List (List Int)) (v : List Int) : fieldL g (negL v) = negL (fieldL g v) := by
  unfold fieldL negL
  rw [List.map_map]
  refine List.map_congr_left fun i _ => ?_
  show fAt g (negL v) i = -(fAt g v i)
  unfold fAt
  exact dot_neg _ _ _
theorem nodup_sub {α : Type} [DecidableEq α] : ∀ {l m : List α}, l.Nodup → (∀ x ∈ l, x ∈ m) → l.length ≤ m.length
  | [], _, _, _ => Nat.zero_le _
  | a :: t, m, hn, hs => by
    have ha := hs a (by simp)
    rw [List.nodup_cons] at hn
    have h := nodup_sub (l := t) (m := m.erase a) hn.2 (fun x hx => by
      have hne : x ≠ a := fun e => hn.1 (e ▸ hx)
      exact (List.mem_erase_of_ne hne).2 (hs x (by simp [hx])))
    rw [List.length_erase_of_mem ha] at h
    have : 0 < m.length := List.length_pos_of_mem ha
    simp; omega
theorem makers_neg_le (g : List (List Int)) (w : List Int) : (makersL g w).length ≤ (makersL g (negL w)).length := by
  have h : ((makersL g w).map negL).length ≤ (makersL g (negL w)).length := by
    refine nodup_sub ?_ ?_
    · rw [List.nodup_iff_pairwise_ne, List.pairwise_map]
      refine (List.nodup_iff_pairwise_ne.1 (makers_nodup g w)).imp fun {a b} hne e => hne ?_
      rw [← negL_neg a, e, negL_neg]
    · intro x hx
      obtain ⟨v, hv, rfl⟩ := List.mem_map.1 hx
      obtain ⟨h1, h2⟩ := mem_makers.1 hv
      exact mem_makers.2 ⟨ok_neg h1, by rw [field_neg, h2]⟩
  simpa using h
theorem makers_neg (g : List (List Int)) (w : List Int) : (makersL g (negL w)).length = (makersL g w).length := by
  have h1 := makers_neg_le g w
  have h2 := makers_neg_le g (negL w)
  rw [negL_neg] at h2
  omega

/-! Sums of voltages. -/
def addL (a b : List Int) : List Int := (List.range a.length).map fun k => a.getD k 0 + b.getD k 0
@[simp] theorem addL_len (a b : List Int) : (addL a b).length = a.length := by simp [addL]
theorem addL_get {a b : List Int} {k : Nat} (h : k < a.length) : (addL a b).getD k 0 = a.getD k 0 + b.getD k 0 := by simp [addL, h]
theorem dot_add (g a b : List Int) : ∀ k, k ≤ a.length → dotTo g (addL a b) k = dotTo g a k + dotTo g b k
  | 0, _ => rfl
  | k + 1, h => by
    rw [dotTo, dotTo, dotTo, dot_add g a b k (by omega), addL_get (by omega), Int.mul_add]; omega
theorem field_add {g : List (List Int)} {a b : List Int} (ha : a.length = wires g) {i : Nat} (hi : i < g.length) : (fieldL g (addL a b)).getD i 0 = (fieldL g a).getD i 0 + (fieldL g b).getD i 0 := by
  rw [fieldL_get hi, fieldL_get hi, fieldL_get hi]
  exact dot_add _ _ _ _ (by omega)
theorem ok_zeros (n : Nat) (m : Int) (h : 0 ≤ m) : OkV (List.replicate n 0) n m := by
  refine ⟨by simp, fun k => ?_⟩
  have : (List.replicate n (0 : Int)).getD k 0 = 0 := by
    rcases Nat.lt_or_ge k n with h | h
    · simp [h]
    · exact getD_out (by simpa using h)
  rw [this]; omega
theorem zeros_get (n k : Nat) : (List.replicate n (0 : Int)).getD k 0 = 0 := by
  rcases Nat.lt_or_ge k n with h | h
  · simp [h]
  · exact getD_out (by simpa using h)
theorem dot_zero (g : List Int) (n : Nat) : ∀ k, dotTo g (List.replicate n 0) k = 0
  | 0 => rfl
  | k + 1 => by rw [dotTo, dot_zero g n k, zeros_get]; simp
theorem field_zero (g : List (List Int)) (n : Nat) : fieldL g (List.replicate n 0) = List.replicate g.length 0 := by
  refine List.ext_getElem (by simp) fun i h1 h2 => ?_
  simp [fieldL, fAt, dot_zero]
theorem list_ext {a b : List Int} (hl : a.length = b.length) (h : ∀ k, k < a.length → a.getD k 0 = b.getD k 0) : a = b := by
  refine List.ext_getElem hl fun k h1 h2 => ?_
  have := h k h1
  simpa [h1, h2] using this
end Go.Proofs.Ytmmjdabioolodaa
