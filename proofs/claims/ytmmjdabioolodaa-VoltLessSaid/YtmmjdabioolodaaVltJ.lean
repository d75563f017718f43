/- Jumps and sizes of voltages, the calmest ones, the nearest ones; courses and the smallest jump of one. Lists and numbers alone. -/
import Derived.Test.YtmmjdabioolodaaVltM
namespace Go.Proofs.Ytmmjdabioolodaa

/-- How far apart two numbers are, as the program and as the specification say it. -/
def gap (a b : Int) : Int := max a b - min a b
theorem gap_max (a b : Int) : gap a b = max (a - b) (b - a) := by unfold gap; omega
theorem gap_comm (a b : Int) : gap a b = gap b a := by unfold gap; omega
theorem gap_pos (a b : Int) : 0 ≤ gap a b := by unfold gap; omega
def jumpTo (a b : List Int) : Nat → Int
  | 0 => 0
  | k + 1 => max (jumpTo a b k) (gap (a.getD k 0) (b.getD k 0))
def jumpL (a b : List Int) : Int := jumpTo a b a.length
theorem jumpTo_pos (a b : List Int) : ∀ k, 0 ≤ jumpTo a b k
  | 0 => by simp [jumpTo]
  | k + 1 => by have := jumpTo_pos a b k; simp only [jumpTo]; omega
theorem jumpL_pos (a b : List Int) : 0 ≤ jumpL a b := jumpTo_pos _ _ _
theorem jumpTo_le {a b : List Int} {m : Int} (hm : 0 ≤ m) : ∀ {k : Nat}, jumpTo a b k ≤ m ↔ ∀ i, i < k → gap (a.getD i 0) (b.getD i 0) ≤ m
  | 0 => ⟨fun _ i hi => absurd hi (by omega), fun _ => hm⟩
  | k + 1 => by
    simp only [jumpTo]
    rw [Int.max_le, jumpTo_le hm (k := k)]
    constructor
    · rintro ⟨h1, h2⟩ i hi
      rcases Nat.lt_or_ge i k with h | h
      · exact h1 i h
      · rw [show i = k by omega]; exact h2
    · exact fun h => ⟨fun i hi => h i (by omega), h k (by omega)⟩
theorem jumpL_le {a b : List Int} {m : Int} (hm : 0 ≤ m) : jumpL a b ≤ m ↔ ∀ i, i < a.length → gap (a.getD i 0) (b.getD i 0) ≤ m := jumpTo_le hm
theorem jumpTo_comm (a b : List Int) : ∀ k, jumpTo a b k = jumpTo b a k
  | 0 => rfl
  | k + 1 => by rw [jumpTo, jumpTo, jumpTo_comm a b k, gap_comm]
theorem jumpL_comm {a b : List Int} (h : a.length = b.length) : jumpL a b = jumpL b a := by unfold jumpL; rw [jumpTo_comm, h]
theorem jumpL_bound {a b : List Int} {n : Nat} {m : Int} (hm : 0 ≤ m) (ha : OkV a n m) (hb : OkV b n m) : jumpL a b ≤ 2 * m :=
  (jumpL_le (by omega)).2 fun i _ => by have := ha.at_ i; have := hb.at_ i; unfold gap; omega
theorem jumpTo_bound {a b : List Int} {n : Nat} {m : Int} (hm : 0 ≤ m) (ha : OkV a n m) (hb : OkV b n m) (k : Nat) : jumpTo a b k ≤ 2 * m :=
  (jumpTo_le (by omega)).2 fun i _ => by have := ha.at_ i; have := hb.at_ i; unfold gap; omega
theorem jumpL_zero {a b : List Int} (hl : a.length = b.length) : jumpL a b = 0 ↔ a = b := by
  constructor
  · intro h
    refine list_ext hl fun k hk => ?_
    have := (jumpL_le (a := a) (b := b) (Int.le_refl 0)).1 (by omega) k hk
    unfold gap at this; omega
  · rintro rfl
    have h1 := (jumpL_le (a := a) (b := a) (Int.le_refl 0)).2 (fun i _ => by unfold gap; omega)
    have := jumpL_pos a a
    omega

/-- The greatest absolute value. -/
def sizeTo (v : List Int) : Nat → Int
  | 0 => 0
  | k + 1 => max (max (sizeTo v k) (v.getD k 0)) (-(v.getD k 0))
def sizeL (v : List Int) : Int := sizeTo v v.length
theorem sizeTo_jump (v : List Int) (n : Nat) : ∀ k, jumpTo v (List.replicate n 0) k = sizeTo v k
  | 0 => rfl
  | k + 1 => by rw [jumpTo, sizeTo, sizeTo_jump v n k, zeros_get]; unfold gap; omega
theorem sizeL_jump (v : List Int) (n : Nat) : jumpL v (List.replicate n 0) = sizeL v := sizeTo_jump _ _ _
theorem sizeL_pos (v : List Int) : 0 ≤ sizeL v := by rw [← sizeL_jump v 0]; exact jumpL_pos _ _
theorem sizeTo_pos (v : List Int) (k : Nat) : 0 ≤ sizeTo v k := by rw [← sizeTo_jump v 0]; exact jumpTo_pos _ _ _
theorem sizeL_bound {v : List Int} {n : Nat} {m : Int} (hm : 0 ≤ m) (hv : OkV v n m) : sizeL v ≤ m := by
  rw [← sizeL_jump v n]
  exact (jumpL_le hm).2 fun i _ => by rw [zeros_get]; have := hv.at_ i; unfold gap; omega
theorem sizeTo_bound {v : List Int} {n : Nat} {m : Int} (hm : 0 ≤ m) (hv : OkV v n m) (k : Nat) : sizeTo v k ≤ m := by
  rw [← sizeTo_jump v n]
  exact (jumpTo_le hm).2 fun i _ => by rw [zeros_get]; have := hv.at_ i; unfold gap; omega
theorem size_zero {v : List Int} : sizeL v = 0 ↔ v = List.replicate v.length 0 := by
  rw [← sizeL_jump v v.length, jumpL_zero (by simp)]
theorem size_ok {v : List Int} {n : Nat} {m : Int} (hl : v.length = n) (hm : 0 ≤ m) : OkV v n m ↔ sizeL v ≤ m := by
  constructor
  · exact sizeL_bound hm
  · intro h
    rw [← sizeL_jump v n] at h
    refine ⟨hl, fun k => ?_⟩
    rcases Nat.lt_or_ge k v.length with hk | hk
    · have := (jumpL_le hm).1 h k hk
      rw [zeros_get] at this
      unfold gap at this; omega
    · rw [getD_out hk]; omega

/-! The calmest: as the program goes. -/
def calmS (s : Int × Bool) (v : List Int) : Int × Bool := if (!s.2 || decide (sizeL v < s.1)) = true then (sizeL v, true) else s
def calmF (l : List (List Int)) : Int × Bool := l.foldl calmS (0, false)
theorem calmF_snoc (l : List (List Int)) (v : List Int) : calmF (l ++ [v]) = calmS (calmF l) v := by simp [calmF]
/-- .. as the specification goes. -/
def leastF (l : List (List Int)) : Int := l.foldl (fun n v => min n (sizeL v)) 3
theorem leastF_snoc (l : List (List Int)) (v : List Int) : leastF (l ++ [v]) = min (leastF l) (sizeL v) := by simp [leastF]
theorem list_rev_ind {α : Type} {P : List α → Prop} (h0 : P []) (h1 : ∀ l x, P l → P (l ++ [x])) (l : List α) : P l := by
  have : ∀ l : List α, P l.reverse := fun l => by
    induction l with
    | nil => exact h0
    | cons a t ih => rw [List.reverse_cons]; exact h1 _ _ ih
  have h := this l.reverse
  rwa [List.reverse_reverse] at h
theorem leastF_le (l : List (List Int)) : leastF l ≤ 3 ∧ ∀ v ∈ l, leastF l ≤ sizeL v := by
  refine list_rev_ind (P := fun l => leastF l ≤ 3 ∧ ∀ v ∈ l, leastF l ≤ sizeL v) ⟨by simp [leastF], by simp⟩ (fun l x ih => ?_) l
  rw [leastF_snoc]
  refine ⟨by omega, fun v hv => ?_⟩
  rcases List.mem_append.1 hv with h | h
  · have := ih.2 v h; omega
  · rw [List.mem_singleton.1 h]; omega
theorem leastF_pos (l : List (List Int)) : 0 ≤ leastF l := by
  refine list_rev_ind (P := fun l => 0 ≤ leastF l) (by simp [leastF]) (fun l x ih => ?_) l
  rw [leastF_snoc]; have := sizeL_pos x; omega
/-- Both say the same, where all sizes are at most 3. -/
theorem calm_least (l : List (List Int)) (h : ∀ v ∈ l, sizeL v ≤ 3) : calmF l = if l.length = 0 then (0, false) else (leastF l, true) := by
  revert h
  refine list_rev_ind (P := fun l => (∀ v ∈ l, sizeL v ≤ 3) → calmF l = if l.length = 0 then (0, false) else (leastF l, true)) (fun _ => rfl) (fun l x ih h => ?_) l
  have ih := ih fun v hv => h v (by simp [hv])
  have hx := h x (by simp)
  rw [calmF_snoc, ih, leastF_snoc, if_neg (show ¬ (l ++ [x]).length = 0 by simp)]
  by_cases h0 : l.length = 0
  · rw [if_pos h0]
    have : l = [] := List.length_eq_zero_iff.1 h0
    subst this
    unfold calmS
    rw [if_pos (by rfl)]
    rw [show leastF [] = 3 from rfl, show min 3 (sizeL x) = sizeL x by omega]
  · rw [if_neg h0]
    unfold calmS
    by_cases h1 : sizeL x < leastF l
    · rw [if_pos (by simp [h1])]
      rw [show min (leastF l) (sizeL x) = sizeL x by omega]
    · rw [if_neg (by simp [h1])]
      rw [show min (leastF l) (sizeL x) = leastF l by omega]
theorem makers_size {g : List (List Int)} {w : List Int} : ∀ v ∈ makersL g w, sizeL v ≤ 3 := fun v hv => sizeL_bound (by decide) (mem_makers.1 hv).1
def calmL (g : List (List Int)) (w : List Int) : Int × Bool := if (makersL g w).length = 0 then (0, false) else (leastF (makersL g w), true)
theorem calm_eq (g : List (List Int)) (w : List Int) : calmF (makersL g w) = calmL g w := calm_least _ makers_size
theorem calmS_pos {s : Int × Bool} {v : List Int} (h : 0 ≤ s.1 ∧ s.1 ≤ 3) (hv : sizeL v ≤ 3) : 0 ≤ (calmS s v).1 ∧ (calmS s v).1 ≤ 3 := by
  unfold calmS; have := sizeL_pos v
  split
  · exact ⟨this, hv⟩
  · exact h

/-! The nearest. -/
def farV (g : List (List Int)) (w v : List Int) : Int := jumpL (fieldL g v) w
def nearS (g : List (List Int)) (w : List Int) (s : Option (Int × List Int)) (v : List Int) : Option (Int × List Int) :=
  match s with
  | none => some (farV g w v, v)
  | some (n, u) => if farV g w v < n then some (farV g w v, v) else some (n, u)
def nearF (g : List (List Int)) (w : List Int) (l : List (List Int)) : Option (Int × List Int) := l.foldl (nearS g w) none
theorem nearF_snoc (g : List (List Int)) (w : List Int) (l : List (List Int)) (v : List Int) : nearF g w (l ++ [v]) = nearS g w (nearF g w l) v := by simp [nearF]
theorem nearF_none {g : List (List Int)} {w : List Int} {l : List (List Int)} : nearF g w l = none ↔ l = [] := by
  refine list_rev_ind (P := fun l => nearF g w l = none ↔ l = []) ⟨fun _ => rfl, fun _ => rfl⟩ (fun l x _ => ?_) l
  rw [nearF_snoc]
  refine ⟨fun h => ?_, fun h => by simp at h⟩
  unfold nearS at h
  split at h
  · cases h
  · split at h <;> cases h
theorem nearF_some {g : List (List Int)} {w : List Int} (l : List (List Int)) : ∀ n u, nearF g w l = some (n, u) → u ∈ l ∧ n = farV g w u ∧ ∀ v ∈ l, n ≤ farV g w v := by
  refine list_rev_ind (P := fun l => ∀ n u, nearF g w l = some (n, u) → u ∈ l ∧ n = farV g w u ∧ ∀ v ∈ l, n ≤ farV g w v) (fun n u h => by cases h) (fun l x ih n u h => ?_) l
  rw [nearF_snoc] at h
  unfold nearS at h
  split at h
  · rename_i he
    have := nearF_none.1 he
    subst this
    injection h with h
    injection h with h1 h2
    subst h1 h2
    exact ⟨by simp, rfl, fun v hv => by simp at hv; subst hv; omega⟩
  · rename_i m y he
    obtain ⟨h1, h2, h3⟩ := ih m y he
    split at h
    · rename_i hlt
      injection h with h
      injection h with ha hb
      subst ha hb
      refine ⟨by simp, rfl, fun v hv => ?_⟩
      rcases List.mem_append.1 hv with hv | hv
      · have := h3 v hv; omega
      · rw [List.mem_singleton.1 hv]; omega
    · rename_i hlt
      injection h with h
      injection h with ha hb
      subst ha hb
      refine ⟨by simp [h1], h2, fun v hv => ?_⟩
      rcases List.mem_append.1 hv with hv | hv
      · exact h3 v hv
      · rw [List.mem_singleton.1 hv]; omega
theorem farV_pos (g : List (List Int)) (w v : List Int) : 0 ≤ farV g w v := jumpL_pos _ _
theorem farV_zero {g : List (List Int)} {w v : List Int} (hw : w.length = g.length) : farV g w v = 0 ↔ fieldL g v = w := jumpL_zero (by simp [hw])
theorem near_some (g : List (List Int)) (w : List Int) : ∃ n u, nearF g w (voltsL (wires g)) = some (n, u) := by
  rcases h : nearF g w (voltsL (wires g)) with _ | ⟨n, u⟩
  · have h1 := nearF_none.1 h
    have h2 : (voltsL (wires g)).length = 0 := by rw [h1]; rfl
    rw [voltsL_len] at h2
    have := pow_pos' (wires g)
    omega
  · exact ⟨n, u, rfl⟩
/-- The nearest field is the wish exactly where some voltages make it. -/
theorem near_zero {g : List (List Int)} {w u : List Int} {n : Int} (hw : w.length = g.length) (h : nearF g w (voltsL (wires g)) = some (n, u)) : n = 0 ↔ 0 < (makersL g w).length := by
  obtain ⟨h1, h2, h3⟩ := nearF_some _ _ _ h
  constructor
  · intro h0
    rw [h0] at h2
    exact List.length_pos_of_mem (mem_makers.2 ⟨mem_volts.1 h1, (farV_zero hw).1 h2.symm⟩)
  · intro hp
    obtain ⟨v, hv⟩ := List.exists_mem_of_length_pos hp
    obtain ⟨h4, h5⟩ := mem_makers.1 hv
    have h6 := h3 v (mem_volts.2 h4)
    rw [(farV_zero hw).2 h5] at h6
    have := farV_pos g w u
    omega
theorem near_make {g : List (List Int)} {w u : List Int} {n : Int} (hw : w.length = g.length) (h : nearF g w (voltsL (wires g)) = some (n, u)) (h0 : n = 0) : u ∈ makersL g w := by
  obtain ⟨h1, h2, _⟩ := nearF_some _ _ _ h
  exact mem_makers.2 ⟨mem_volts.1 h1, (farV_zero hw).1 (by rw [← h2, h0])⟩

/-! Courses. -/
def jumpC : List (List Int) → Int
  | [] => 0
  | [_] => 0
  | a :: b :: t => max (jumpL a b) (jumpC (b :: t))
theorem jumpC_pos : ∀ l, 0 ≤ jumpC l
  | [] => by simp [jumpC]
  | [_] => by simp [jumpC]
  | a :: b :: t => by have := jumpL_pos a b; have := jumpC_pos (b :: t); simp only [jumpC]; omega
theorem jumpC_le {m : Int} (hm : 0 ≤ m) : ∀ {l : List (List Int)}, jumpC l ≤ m ↔ ∀ i, i + 1 < l.length → jumpL (l.getD i []) (l.getD (i + 1) []) ≤ m
  | [] => ⟨fun _ i hi => by simp at hi, fun _ => hm⟩
  | [_] => ⟨fun _ i hi => by simp at hi, fun _ => hm⟩
  | a :: b :: t => by
    simp only [jumpC]
    rw [Int.max_le, jumpC_le hm (l := b :: t)]
    constructor
    · rintro ⟨h1, h2⟩ i hi
      rcases i with _ | i
      · exact h1
      · exact h2 i (by simpa using hi)
    · exact fun h => ⟨h 0 (by simp), fun i hi => h (i + 1) (by simpa using hi)⟩
theorem ext_le {a b : Int} (ha : 0 ≤ a) (hb : 0 ≤ b) (h : ∀ m, 0 ≤ m → (a ≤ m ↔ b ≤ m)) : a = b := by
  have h1 := (h a ha).1 (Int.le_refl _)
  have h2 := (h b hb).2 (Int.le_refl _)
  omega
/-- The jump of the first k + 1 voltages, one by one. -/
def jumpCTo (l : List (List Int)) : Nat → Int
  | 0 => 0
  | k + 1 => max (jumpCTo l k) (jumpL (l.getD k []) (l.getD (k + 1) []))
theorem jumpCTo_pos (l : List (List Int)) : ∀ k, 0 ≤ jumpCTo l k
  | 0 => by simp [jumpCTo]
  | k + 1 => by have := jumpCTo_pos l k; simp only [jumpCTo]; omega
theorem jumpCTo_le {m : Int} (hm : 0 ≤ m) {l : List (List Int)} : ∀ {k : Nat}, jumpCTo l k ≤ m ↔ ∀ i, i < k → jumpL (l.getD i []) (l.getD (i + 1) []) ≤ m
  | 0 => ⟨fun _ i hi => absurd hi (by omega), fun _ => hm⟩
  | k + 1 => by
    simp only [jumpCTo]
    rw [Int.max_le, jumpCTo_le hm (k := k)]
    constructor
    · rintro ⟨h1, h2⟩ i hi
      rcases Nat.lt_or_ge i k with h | h
      · exact h1 i h
      · rw [show i = k by omega]; exact h2
    · exact fun h => ⟨fun i hi => h i (by omega), h k (by omega)⟩
theorem jumpCTo_all (l : List (List Int)) : jumpCTo l (l.length - 1) = jumpC l :=
  ext_le (jumpCTo_pos _ _) (jumpC_pos _) fun m hm => by
    rw [jumpCTo_le hm, jumpC_le hm]
    exact ⟨fun h i hi => h i (by omega), fun h i hi => h i (by omega)⟩
theorem getD_l {α : Type} {a b : List α} {k : Nat} {d : α} (h : k < a.length) : (a ++ b).getD k d = a.getD k d := by
  simp only [List.getD_eq_getElem?_getD]; rw [List.getElem?_append_left h]
theorem getD_r {α : Type} {a b : List α} {k : Nat} {d : α} (h : a.length ≤ k) : (a ++ b).getD k d = b.getD (k - a.length) d := by
  simp only [List.getD_eq_getElem?_getD]; rw [List.getElem?_append_right h]
theorem jumpC_snoc {l : List (List Int)} (v : List Int) (h : 0 < l.length) : jumpC (l ++ [v]) = max (jumpC l) (jumpL (l.getD (l.length - 1) []) v) := by
  have hl : (l ++ [v]).length - 1 = l.length - 1 + 1 := by simp; omega
  rw [← jumpCTo_all (l ++ [v]), hl, jumpCTo]
  have e1 : (l ++ [v]).getD (l.length - 1) [] = l.getD (l.length - 1) [] := getD_l (by omega)
  have e2 : (l ++ [v]).getD (l.length - 1 + 1) [] = v := by rw [getD_r (by omega), show l.length - 1 + 1 - l.length = 0 by omega]; rfl
  rw [e1, e2]
  congr 1
  rw [← jumpCTo_all l]
  refine ext_le (jumpCTo_pos _ _) (jumpCTo_pos _ _) fun m hm => ?_
  rw [jumpCTo_le hm, jumpCTo_le hm]
  have e : ∀ i, i < l.length - 1 → jumpL ((l ++ [v]).getD i []) ((l ++ [v]).getD (i + 1) []) = jumpL (l.getD i []) (l.getD (i + 1) []) := fun i hi => by
    rw [getD_l (by omega), getD_l (by omega)]
  exact ⟨fun h i hi => by rw [← e i hi]; exact h i hi, fun h i hi => by rw [e i hi]; exact h i hi⟩
theorem jumpC_rev {l : List (List Int)} {n : Nat} (hl : ∀ v ∈ l, v.length = n) : jumpC l.reverse = jumpC l := by
  refine ext_le (jumpC_pos _) (jumpC_pos _) fun m hm => ?_
  rw [jumpC_le hm, jumpC_le hm]
  have hg : ∀ i, i < l.length → (l.getD i []).length = n := fun i hi => hl _ (by simp [hi])
  have hr : ∀ i, i < l.length → l.reverse.getD i [] = l.getD (l.length - 1 - i) [] := fun i hi => by
    simp [List.getD_eq_getElem?_getD, List.getElem?_reverse hi]
  constructor
  · intro h i hi
    have := h (l.length - 2 - i) (by simp; omega)
    rw [hr _ (by omega), hr _ (by omega)] at this
    rw [show l.length - 1 - (l.length - 2 - i) = i + 1 by omega, show l.length - 1 - (l.length - 2 - i + 1) = i by omega] at this
    rw [jumpL_comm (by rw [hg _ (by omega), hg _ (by omega)])]
    exact this
  · intro h i hi
    simp at hi
    rw [hr _ (by omega), hr _ (by omega), jumpL_comm (by rw [hg _ (by omega), hg _ (by omega)])]
    have := h (l.length - 1 - (i + 1)) (by omega)
    rw [show l.length - 1 - (i + 1) + 1 = l.length - 1 - i by omega] at this
    exact this
theorem jumpC_take (l : List (List Int)) (k : Nat) : jumpC (l.take k) ≤ jumpC l :=
  (jumpC_le (jumpC_pos l)).2 fun i hi => by
    rw [List.length_take] at hi
    have := (jumpC_le (jumpC_pos l)).1 (Int.le_refl _) i (by omega)
    have e : ∀ j, j < k → (l.take k).getD j [] = l.getD j [] := fun j hj => by simp [List.getD_eq_getElem?_getD, hj]
    rw [e i (by omega), e (i + 1) (by omega)]; exact this

def CourseP (g row s : List (List Int)) : Prop := s.length = row.length ∧ ∀ i, i < row.length → s.getD i [] ∈ makersL g (row.getD i [])
/-- m is the smallest jump of a course. -/
def SmoothP (g row : List (List Int)) (m : Int) : Prop := (∃ s, CourseP g row s ∧ jumpC s = m) ∧ ∀ s, CourseP g row s → m ≤ jumpC s
theorem smooth_one {g row : List (List Int)} {m n : Int} (h : SmoothP g row m) (k : SmoothP g row n) : m = n := by
  obtain ⟨⟨s, hs, e1⟩, h2⟩ := h
  obtain ⟨⟨t, ht, e2⟩, k2⟩ := k
  have := h2 t ht
  have := k2 s hs
  omega
theorem course_rev {g row s : List (List Int)} (h : CourseP g row s) : CourseP g row.reverse s.reverse ∧ jumpC s.reverse = jumpC s := by
  obtain ⟨h1, h2⟩ := h
  refine ⟨⟨by simp [h1], fun i hi => ?_⟩, jumpC_rev (n := wires g) fun v hv => ?_⟩
  · simp at hi
    have e1 : s.reverse.getD i [] = s.getD (row.length - 1 - i) [] := by simp [List.getD_eq_getElem?_getD, List.getElem?_reverse (show i < s.length by omega), h1]
    have e2 : row.reverse.getD i [] = row.getD (row.length - 1 - i) [] := by simp [List.getD_eq_getElem?_getD, List.getElem?_reverse hi]
    rw [e1, e2]
    exact h2 _ (by omega)
  · obtain ⟨k, hk, rfl⟩ := List.getElem_of_mem hv
    have := h2 k (by omega)
    have e : s.getD k [] = s[k] := by simp [hk]
    rw [e] at this
    exact makers_volts this
theorem smooth_rev {g row : List (List Int)} {m : Int} (h : SmoothP g row m) : SmoothP g row.reverse m := by
  obtain ⟨⟨s, hs, e1⟩, h2⟩ := h
  obtain ⟨h3, h4⟩ := course_rev hs
  refine ⟨⟨s.reverse, h3, by rw [h4, e1]⟩, fun t ht => ?_⟩
  obtain ⟨h5, h6⟩ := course_rev ht
  rw [List.reverse_reverse] at h5
  rw [← h6]
  exact h2 _ h5
theorem course_take {g row s : List (List Int)} (h : CourseP g row s) (k : Nat) : CourseP g (row.take k) (s.take k) := by
  obtain ⟨h1, h2⟩ := h
  refine ⟨by simp [h1], fun i hi => ?_⟩
  simp at hi
  have hk : i < k := by omega
  have e : ∀ l : List (List Int), (l.take k).getD i [] = l.getD i [] := fun l => by simp [List.getD_eq_getElem?_getD, hk]
  rw [e, e]
  exact h2 i (by omega)
theorem course_each {g row : List (List Int)} : (∃ s, CourseP g row s) ↔ ∀ i, i < row.length → 0 < (makersL g (row.getD i [])).length := by
  constructor
  · rintro ⟨s, _, h2⟩ i hi
    exact List.length_pos_of_mem (h2 i hi)
  · intro h
    refine ⟨(List.range row.length).map fun i => (makersL g (row.getD i [])).headD [], by simp, fun i hi => ?_⟩
    have e : ((List.range row.length).map fun i => (makersL g (row.getD i [])).headD []).getD i [] = (makersL g (row.getD i [])).headD [] := by simp [hi]
    rw [e]
    have := h i hi
    cases hm : makersL g (row.getD i []) with
    | nil => rw [hm] at this; simp at this
    | cons a t => simp
theorem course_jump {g row s : List (List Int)} (h : CourseP g row s) : jumpC s ≤ 6 :=
  (jumpC_le (by decide)).2 fun i hi => by
    have h0 := h.1
    have h1 := h.2 i (by omega)
    have h2 := h.2 (i + 1) (by omega)
    exact jumpL_bound (by decide) (mem_makers.1 h1).1 (mem_makers.1 h2).1

/-! As the program goes: courses with their jumps. -/
abbrev Crs := List (List Int) × Int
def jumpTo' (c : Crs) (v : List Int) : Int := if c.1.length = 0 then 0 else max c.2 (jumpL (c.1.getD (c.1.length - 1) []) v)
/-- Which of the first k + 1 courses is the smoothest with v behind it: the first one. -/
def bestTo (cs : List Crs) (v : List Int) : Nat → Nat × Int
  | 0 => (0, jumpTo' (cs.getD 0 ([], 0)) v)
  | k + 1 => if jumpTo' (cs.getD k ([], 0)) v < (bestTo cs v k).2 then (k, jumpTo' (cs.getD k ([], 0)) v) else bestTo cs v k
def bestL (cs : List Crs) (v : List Int) : Nat × Int := bestTo cs v cs.length
def smoothTo (cs : List Crs) (v : List Int) : Crs := ((cs.getD (bestL cs v).1 ([], 0)).1 ++ [v], (bestL cs v).2)
theorem bestTo_ok {cs : List Crs} {v : List Int} (h : 0 < cs.length) : ∀ k, k ≤ cs.length → (bestTo cs v k).1 < cs.length ∧ (bestTo cs v k).2 = jumpTo' (cs.getD (bestTo cs v k).1 ([], 0)) v ∧ ∀ i, i < k → (bestTo cs v k).2 ≤ jumpTo' (cs.getD i ([], 0)) v
  | 0, _ => ⟨h, rfl, fun i hi => absurd hi (by omega)⟩
  | k + 1, hk => by
    obtain ⟨h1, h2, h3⟩ := bestTo_ok (v := v) h k (by omega)
    rw [bestTo]
    split
    · rename_i hlt
      refine ⟨by omega, rfl, fun i hi => ?_⟩
      rcases Nat.lt_or_ge i k with h' | h'
      · have := h3 i h'; simp only; omega
      · rw [show i = k by omega]; exact Int.le_refl _
    · rename_i hlt
      refine ⟨h1, h2, fun i hi => ?_⟩
      rcases Nat.lt_or_ge i k with h' | h'
      · exact h3 i h'
      · rw [show i = k by omega]; omega
def crsTo (g row : List (List Int)) : Nat → List Crs
  | 0 => [([], 0)]
  | k + 1 => (makersL g (row.getD k [])).map (smoothTo (crsTo g row k))
theorem row_take_succ {row : List (List Int)} {k : Nat} (h : k < row.length) : row.take (k + 1) = row.take k ++ [row.getD k []] := by
  rw [List.take_add_one]; simp [h]
theorem course_snoc {g row s : List (List Int)} {w v : List Int} (h : CourseP g row s) (hv : v ∈ makersL g w) : CourseP g (row ++ [w]) (s ++ [v]) := by
  obtain ⟨h1, h2⟩ := h
  refine ⟨by simp [h1], fun i hi => ?_⟩
  rcases Nat.lt_or_ge i row.length with h | h
  · rw [getD_l (a := s) (by omega), getD_l (a := row) h]; exact h2 i h
  · have : i = row.length := by simp at hi; omega
    subst this
    rw [getD_r (a := s) (by omega), getD_r (a := row) (by omega), h1]; simpa using hv
theorem course_unsnoc {g row s : List (List Int)} {w : List Int} (h : CourseP g (row ++ [w]) s) : ∃ s' v, s = s' ++ [v] ∧ CourseP g row s' ∧ v ∈ makersL g w := by
  obtain ⟨h1, h2⟩ := h
  have hne : s ≠ [] := by intro e; rw [e] at h1; simp at h1
  have hd : s = s.dropLast ++ [s.getLast hne] := (List.dropLast_concat_getLast hne).symm
  have hl : s.dropLast.length = row.length := by simp [h1]
  refine ⟨s.dropLast, s.getLast hne, hd, ⟨hl, fun i hi => ?_⟩, ?_⟩
  · have := h2 i (by simp; omega)
    rw [hd, getD_l (a := s.dropLast) (by omega), getD_l (a := row) hi] at this
    exact this
  · have := h2 row.length (by simp)
    rw [hd, getD_r (a := s.dropLast) (by omega), getD_r (a := row) (by omega), hl] at this
    simpa using this
theorem crs_pos {g row : List (List Int)} {k : Nat} (hE : ∀ i, i < k → 0 < (makersL g (row.getD i [])).length) : 0 < (crsTo g row k).length := by
  rcases k with _ | k
  · simp [crsTo]
  · rw [crsTo, List.length_map]; exact hE k (by omega)
theorem crs_ok {g row : List (List Int)} : ∀ k, k ≤ row.length →
    ((∀ i, i < k → 0 < (makersL g (row.getD i [])).length) → ∀ c ∈ crsTo g row k, CourseP g (row.take k) c.1 ∧ jumpC c.1 = c.2) ∧
    (∀ s, CourseP g (row.take k) s → ∃ c ∈ crsTo g row k, c.2 ≤ jumpC s ∧ c.1.getD (k - 1) [] = s.getD (k - 1) [])
  | 0, _ => by
    constructor
    · intro _ c hc
      simp [crsTo] at hc
      subst hc
      exact ⟨⟨by simp, fun i hi => by simp at hi⟩, rfl⟩
    · intro s hs
      have hl := hs.1
      simp at hl
      refine ⟨([], 0), by simp [crsTo], ?_, ?_⟩
      · exact jumpC_pos s
      · rw [hl]
  | k + 1, hk => by
    obtain ⟨ih1, ih2⟩ := crs_ok (g := g) (row := row) k (by omega)
    have hrow := row_take_succ (row := row) (k := k) (by omega)
    rw [hrow]
    have hjump : (∀ i, i < k → 0 < (makersL g (row.getD i [])).length) → ∀ c ∈ crsTo g row k, ∀ v, jumpTo' c v = jumpC (c.1 ++ [v]) := fun hE c hc v => by
      obtain ⟨h1, h2⟩ := ih1 hE c hc
      unfold jumpTo'
      split
      · rename_i h0
        rw [List.length_eq_zero_iff.1 h0]; rfl
      · rename_i h0
        rw [jumpC_snoc v (by omega), h2]
    have hmem : ∀ i, i < (crsTo g row k).length → (crsTo g row k).getD i ([], 0) ∈ crsTo g row k := fun i hi => by simp [hi]
    constructor
    · intro hE c hc
      have hE' := fun i (hi : i < k) => hE i (by omega)
      rw [crsTo] at hc
      obtain ⟨v, hv, rfl⟩ := List.mem_map.1 hc
      have hpos := crs_pos (k := k) hE'
      obtain ⟨b1, b2, b3⟩ := bestTo_ok (cs := crsTo g row k) (v := v) hpos _ (Nat.le_refl _)
      have hin := hmem _ b1
      obtain ⟨c1, c2⟩ := ih1 hE' _ hin
      refine ⟨course_snoc c1 hv, ?_⟩
      show jumpC _ = (bestL _ _).2
      rw [show (bestL (crsTo g row k) v).2 = (bestTo (crsTo g row k) v (crsTo g row k).length).2 from rfl, b2, hjump hE' _ hin]
      rfl
    · intro s hs
      obtain ⟨s', v, rfl, h1, h2⟩ := course_unsnoc hs
      obtain ⟨c, hc, hle, hlast⟩ := ih2 s' h1
      have hE' := fun i (hi : i < k) => course_each.1 ⟨s', h1⟩ i (by simp; omega)
      have hE'' : ∀ i, i < k → 0 < (makersL g (row.getD i [])).length := fun i hi => by
        have := hE' i hi
        rwa [show (row.take k).getD i [] = row.getD i [] by simp [List.getD_eq_getElem?_getD, hi]] at this
      have hpos : 0 < (crsTo g row k).length := List.length_pos_of_mem hc
      obtain ⟨i, hi, he⟩ := List.getElem_of_mem hc
      obtain ⟨b1, b2, b3⟩ := bestTo_ok (cs := crsTo g row k) (v := v) hpos _ (Nat.le_refl _)
      have hin := hmem _ b1
      refine ⟨smoothTo (crsTo g row k) v, List.mem_map.2 ⟨v, h2, rfl⟩, ?_, ?_⟩
      · have h3 := b3 i hi
        rw [show (crsTo g row k).getD i ([], 0) = c by simp [hi, he]] at h3
        refine Int.le_trans h3 ?_
        rw [hjump hE'' c hc]
        have hcl := (ih1 hE'' c hc).1.1
        have hsl := h1.1
        rcases Nat.eq_zero_or_pos k with h0 | h0
        · subst h0
          simp at hcl hsl
          rw [hcl, hsl]; exact Int.le_refl _
        · have hk' : (row.take k).length = k := by simp; omega
          rw [jumpC_snoc v (by omega), jumpC_snoc v (by omega), hcl, hsl, hk', hlast, (ih1 hE'' c hc).2]
          omega
      · have hsl := h1.1
        have hcl := (ih1 hE'' _ hin).1.1
        have hk' : (row.take k).length = k := by simp; omega
        rw [show k + 1 - 1 = k by omega]
        have e1 : (((crsTo g row k).getD (bestTo (crsTo g row k) v (crsTo g row k).length).1 ([], 0)).1 ++ [v]).getD k [] = v := by
          rw [getD_r (by rw [hcl, hk']; exact Nat.le_refl _), hcl, hk', Nat.sub_self]; rfl
        have e2 : (s' ++ [v]).getD k [] = v := by
          rw [getD_r (by rw [hsl, hk']; exact Nat.le_refl _), hsl, hk', Nat.sub_self]; rfl
        rw [e2]
        exact e1
end Go.Proofs.Ytmmjdabioolodaa
