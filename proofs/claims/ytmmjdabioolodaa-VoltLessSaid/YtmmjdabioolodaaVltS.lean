/- The smallest jump of a course, both ways; how many fields there are; ramps; gains without an electrode. Lists and numbers alone. -/
import Derived.Test.YtmmjdabioolodaaVltJ
namespace Go.Proofs.Ytmmjdabioolodaa

/-- The first one of the smallest of the first k + 1. -/
def minTo (cs : List Crs) : Nat → Crs
  | 0 => cs.getD 0 ([], 0)
  | k + 1 => if (cs.getD (k + 1) ([], 0)).2 < (minTo cs k).2 then cs.getD (k + 1) ([], 0) else minTo cs k
def minL (cs : List Crs) : Crs := minTo cs (cs.length - 1)
theorem minTo_ok {cs : List Crs} : ∀ k, k < cs.length → minTo cs k ∈ cs ∧ ∀ i, i ≤ k → (minTo cs k).2 ≤ (cs.getD i ([], 0)).2
  | 0, h => ⟨by simp [minTo, h], fun i hi => by rw [show i = 0 by omega]; exact Int.le_refl _⟩
  | k + 1, h => by
    obtain ⟨h1, h2⟩ := minTo_ok (cs := cs) k (by omega)
    rw [minTo]
    split
    · rename_i hlt
      refine ⟨by simp [h], fun i hi => ?_⟩
      rcases Nat.lt_or_ge i (k + 1) with h' | h'
      · have := h2 i (by omega); omega
      · rw [show i = k + 1 by omega]; exact Int.le_refl _
    · rename_i hlt
      refine ⟨h1, fun i hi => ?_⟩
      rcases Nat.lt_or_ge i (k + 1) with h' | h'
      · exact h2 i (by omega)
      · rw [show i = k + 1 by omega]; omega
/-- Whether each wish of the first k has voltages. -/
def eachTo (g row : List (List Int)) (k : Nat) : Bool := allTo (fun i => decide (0 < (makersL g (row.getD i [])).length)) k
def eachB (g row : List (List Int)) : Bool := eachTo g row row.length
theorem eachTo_iff {g row : List (List Int)} {k : Nat} : eachTo g row k = true ↔ ∀ i, i < k → 0 < (makersL g (row.getD i [])).length := by
  unfold eachTo
  rw [allTo_iff]
  exact ⟨fun h i hi => of_decide_eq_true (h i hi), fun h i hi => decide_eq_true (h i hi)⟩
theorem each_iff {g row : List (List Int)} : eachB g row = true ↔ ∀ i, i < row.length → 0 < (makersL g (row.getD i [])).length := eachTo_iff
theorem each_course {g row : List (List Int)} : eachB g row = true ↔ ∃ s, CourseP g row s := by rw [each_iff, course_each]
/-- The smoothest course, and its jump. -/
def bestC (g row : List (List Int)) : Crs := if eachB g row = true then minL (crsTo g row row.length) else ([], 0)
theorem best_ok {g row : List (List Int)} (h : eachB g row = true) : CourseP g row (bestC g row).1 ∧ jumpC (bestC g row).1 = (bestC g row).2 ∧ SmoothP g row (bestC g row).2 := by
  have hp := crs_pos (each_iff.1 h)
  obtain ⟨h1, h2⟩ := crs_ok (g := g) (row := row) row.length (Nat.le_refl _)
  rw [List.take_length] at h1 h2
  have h1 := h1 (each_iff.1 h)
  obtain ⟨m1, m2⟩ := minTo_ok (cs := crsTo g row row.length) ((crsTo g row row.length).length - 1) (by omega)
  have e : bestC g row = minL (crsTo g row row.length) := by unfold bestC; rw [if_pos h]
  rw [e]
  obtain ⟨c1, c2⟩ := h1 _ m1
  refine ⟨c1, c2, ⟨_, c1, c2⟩, fun s hs => ?_⟩
  obtain ⟨c, hc, hle, _⟩ := h2 s hs
  obtain ⟨i, hi, he⟩ := List.getElem_of_mem hc
  have := m2 i (by omega)
  rw [show (crsTo g row row.length).getD i ([], 0) = c by simp [hi, he]] at this
  exact Int.le_trans this hle
theorem best_no {g row : List (List Int)} (h : eachB g row = false) : bestC g row = ([], 0) := by unfold bestC; rw [if_neg (by simp [h])]
theorem best_in {g row : List (List Int)} : 0 ≤ (bestC g row).2 ∧ (bestC g row).2 ≤ 6 := by
  rcases h : eachB g row with _ | _
  · rw [best_no h]; decide
  · obtain ⟨h1, h2, _⟩ := best_ok h
    rw [← h2]
    exact ⟨jumpC_pos _, course_jump h1⟩
theorem best_le {g row s : List (List Int)} (h : CourseP g row s) : eachB g row = true ∧ (bestC g row).2 ≤ jumpC s := by
  have he := each_course.2 ⟨s, h⟩
  exact ⟨he, (best_ok he).2.2.2 s h⟩
theorem best_rev (g row : List (List Int)) : eachB g row.reverse = eachB g row ∧ (bestC g row.reverse).2 = (bestC g row).2 := by
  have h1 : eachB g row = true → eachB g row.reverse = true := fun h => by
    obtain ⟨s, hs⟩ := each_course.1 h
    exact each_course.2 ⟨_, (course_rev hs).1⟩
  have h2 : eachB g row.reverse = true → eachB g row = true := fun h => by
    obtain ⟨s, hs⟩ := each_course.1 h
    have := (course_rev hs).1
    rw [List.reverse_reverse] at this
    exact each_course.2 ⟨_, this⟩
  have he : eachB g row.reverse = eachB g row := by rw [Bool.eq_iff_iff]; exact ⟨h2, h1⟩
  refine ⟨he, ?_⟩
  rcases h : eachB g row with _ | _
  · rw [best_no h, best_no (by rw [he, h])]
  · exact smooth_one (best_ok (by rw [he, h])).2.2 (smooth_rev (best_ok h).2.2)
theorem best_take {g row : List (List Int)} (h : eachB g row = true) (k : Nat) : eachB g (row.take k) = true ∧ (bestC g (row.take k)).2 ≤ (bestC g row).2 := by
  obtain ⟨h1, h2, _⟩ := best_ok h
  obtain ⟨h3, h4⟩ := best_le (course_take h1 k)
  refine ⟨h3, Int.le_trans h4 ?_⟩
  rw [← h2]
  exact jumpC_take _ _

/-- As the specification goes: where one can be with jumps of at most m. -/
def nowTo (g row : List (List Int)) (m : Int) : Nat → List (List Int)
  | 0 => makersL g (row.getD 0 [])
  | k + 1 => (makersL g (row.getD (k + 1) [])).filter fun v => (nowTo g row m k).any fun u => decide (jumpL u v ≤ m)
theorem now_iff {g row : List (List Int)} {m : Int} (hm : 0 ≤ m) : ∀ k, k < row.length → ∀ v, v ∈ nowTo g row m k ↔ ∃ s, CourseP g (row.take (k + 1)) s ∧ jumpC s ≤ m ∧ s.getD k [] = v
  | 0, hk, v => by
    have e : row.take 1 = [row.getD 0 []] := by
      cases row with
      | nil => simp at hk
      | cons a t => simp
    rw [nowTo, e]
    constructor
    · intro hv
      exact ⟨[v], ⟨rfl, fun i hi => by simp at hi; subst hi; simpa using hv⟩, hm, rfl⟩
    · rintro ⟨s, ⟨h1, h2⟩, _, rfl⟩
      have := h2 0 (by simp)
      simpa using this
  | k + 1, hk, v => by
    have ih := now_iff (g := g) (row := row) hm k (by omega)
    rw [nowTo, List.mem_filter, List.any_eq_true]
    have hrow := row_take_succ (row := row) (k := k + 1) hk
    rw [hrow]
    have hlk : (row.take (k + 1)).length = k + 1 := by simp; omega
    constructor
    · rintro ⟨h1, u, hu, hj⟩
      obtain ⟨s, hs, hle, rfl⟩ := (ih u).1 hu
      have hsl := hs.1
      rw [hlk] at hsl
      refine ⟨s ++ [v], course_snoc hs h1, ?_, ?_⟩
      · rw [jumpC_snoc v (by omega), show s.length - 1 = k by omega]
        have := of_decide_eq_true hj
        omega
      · rw [getD_r (by omega), show k + 1 - s.length = 0 by omega]; rfl
    · rintro ⟨s, hs, hle, rfl⟩
      obtain ⟨s', v, rfl, h1, h2⟩ := course_unsnoc hs
      have hsl := h1.1
      rw [hlk] at hsl
      have e : (s' ++ [v]).getD (k + 1) [] = v := by rw [getD_r (by omega), show k + 1 - s'.length = 0 by omega]; rfl
      rw [e]
      rw [jumpC_snoc v (by omega), show s'.length - 1 = k by omega] at hle
      exact ⟨h2, s'.getD k [], (ih _).2 ⟨s', h1, by omega, rfl⟩, decide_eq_true (by omega)⟩
theorem now_best {g row : List (List Int)} {m : Int} (hm : 0 ≤ m) (hr : 0 < row.length) : 0 < (nowTo g row m (row.length - 1)).length ↔ eachB g row = true ∧ (bestC g row).2 ≤ m := by
  have e : row.take (row.length - 1 + 1) = row := by rw [show row.length - 1 + 1 = row.length by omega, List.take_length]
  constructor
  · intro h
    obtain ⟨v, hv⟩ := List.exists_mem_of_length_pos h
    obtain ⟨s, hs, hle, _⟩ := (now_iff hm _ (by omega) v).1 hv
    rw [e] at hs
    obtain ⟨h1, h2⟩ := best_le hs
    exact ⟨h1, by omega⟩
  · rintro ⟨h1, h2⟩
    obtain ⟨c1, c2, _⟩ := best_ok h1
    refine List.length_pos_of_mem ((now_iff hm (row.length - 1) (by omega) ((bestC g row).1.getD (row.length - 1) [])).2 ⟨(bestC g row).1, ?_, by omega, rfl⟩)
    rw [e]; exact c1
theorem nowTo_len (g row : List (List Int)) (m : Int) (h : wires g ≤ 3) : ∀ k, (nowTo g row m k).length ≤ 343
  | 0 => makers_len g _ h
  | _ + 1 => Nat.le_trans (List.length_filter_le _ _) (makers_len g _ h)
/-- The smallest jump as it is found: the first one that is enough. -/
theorem best_found {g row : List (List Int)} (hr : 0 < row.length) {m : Nat} (h : 0 < (nowTo g row (m : Int) (row.length - 1)).length) (hb : ∀ k : Nat, k < m → (nowTo g row (k : Int) (row.length - 1)).length = 0) : eachB g row = true ∧ (bestC g row).2 = m := by
  obtain ⟨h1, h2⟩ := (now_best (by omega) hr).1 h
  refine ⟨h1, ?_⟩
  rcases m with _ | m
  · have := (best_in (g := g) (row := row)).1; omega
  · have h3 := hb m (by omega)
    rcases Int.lt_or_le (m : Int) (bestC g row).2 with h4 | h4
    · omega
    · have := (now_best (by omega) hr).2 ⟨h1, h4⟩
      omega
theorem best_missing {g row : List (List Int)} (hr : 0 < row.length) (hb : ∀ k : Nat, k < 7 → (nowTo g row (k : Int) (row.length - 1)).length = 0) : eachB g row = false := by
  rcases h : eachB g row with _ | _
  · rfl
  · have := (now_best (g := g) (m := ((6 : Nat) : Int)) (by omega) hr).2 ⟨h, best_in.2⟩
    rw [hb 6 (by omega)] at this
    omega

/-! How many fields there are. -/
def fV (g : List (List Int)) (i : Nat) : List Int := fieldL g (vAt (wires g) i)
def newB (g : List (List Int)) (i : Nat) : Bool := allTo (fun j => !(fV g j == fV g i)) i
theorem newB_iff {g : List (List Int)} {i : Nat} : newB g i = true ↔ ∀ j, j < i → fV g j ≠ fV g i := by
  unfold newB
  rw [allTo_iff]
  constructor
  · intro h j hj; have := h j hj; simpa using this
  · intro h j hj; have := h j hj; simpa using this
def distTo (g : List (List Int)) : Nat → List (List Int)
  | 0 => []
  | k + 1 => if newB g k = true then distTo g k ++ [fV g k] else distTo g k
def distL (g : List (List Int)) : List (List Int) := distTo g (7 ^ wires g)
theorem dist_mem {g : List (List Int)} {x : List Int} : ∀ {k : Nat}, x ∈ distTo g k ↔ ∃ j, j < k ∧ fV g j = x
  | 0 => ⟨fun h => by simp [distTo] at h, fun ⟨j, hj, _⟩ => absurd hj (by omega)⟩
  | k + 1 => by
    have ih := dist_mem (g := g) (x := x) (k := k)
    rw [distTo]
    constructor
    · intro h
      split at h
      · rcases List.mem_append.1 h with h | h
        · obtain ⟨j, hj, he⟩ := ih.1 h; exact ⟨j, by omega, he⟩
        · exact ⟨k, by omega, (List.mem_singleton.1 h).symm⟩
      · obtain ⟨j, hj, he⟩ := ih.1 h; exact ⟨j, by omega, he⟩
    · rintro ⟨j, hj, rfl⟩
      rcases Nat.lt_or_ge j k with h | h
      · have := ih.2 ⟨j, h, rfl⟩
        split
        · exact List.mem_append_left _ this
        · exact this
      · obtain rfl : j = k := by omega
        split
        · simp
        · rename_i hn
          rcases hb : newB g j with _ | _
          · have : ¬ ∀ i, i < j → fV g i ≠ fV g j := fun h => by rw [newB_iff.2 h] at hb; cases hb
            obtain ⟨i, hi⟩ := Classical.not_forall.1 this
            obtain ⟨h1, h2⟩ := Classical.not_imp.1 hi
            exact ih.2 ⟨i, h1, Classical.not_not.1 h2⟩
          · exact absurd hb hn
theorem new_mem {g : List (List Int)} {k : Nat} : newB g k = true ↔ fV g k ∉ distTo g k := by
  rw [newB_iff, dist_mem]
  exact ⟨fun h ⟨j, hj, he⟩ => h j hj he, fun h j hj he => h ⟨j, hj, he⟩⟩
theorem dist_nodup (g : List (List Int)) : ∀ k, (distTo g k).Nodup
  | 0 => by simp [distTo]
  | k + 1 => by
    have ih := dist_nodup g k
    rw [distTo]
    split
    · rename_i h
      rw [List.nodup_append]
      exact ⟨ih, by simp, fun a ha b hb => by simp at hb; subst hb; rintro rfl; exact new_mem.1 h ha⟩
    · exact ih
theorem dist_len_le (g : List (List Int)) : ∀ k, (distTo g k).length ≤ k
  | 0 => by simp [distTo]
  | k + 1 => by
    have := dist_len_le g k
    rw [distTo]; split
    · simp; omega
    · omega
theorem dist_mono (g : List (List Int)) (k : Nat) : (distTo g k).length ≤ (distTo g (k + 1)).length := by rw [distTo]; split <;> simp
theorem dist_less {g : List (List Int)} {i : Nat} (h : newB g i = false) : ∀ k, i < k → (distTo g k).length < k
  | 0, hk => absurd hk (by omega)
  | k + 1, hk => by
    rcases Nat.lt_or_ge i k with hlt | hge
    · have := dist_less h k hlt
      rw [distTo]; split
      · simp; omega
      · omega
    · obtain rfl : i = k := by omega
      rw [distTo, if_neg (by simp [h])]
      have := dist_len_le g i; omega
theorem dist_one (g : List (List Int)) : 1 ≤ (distL g).length := by
  have : fV g 0 ∈ distL g := dist_mem.2 ⟨0, pow_pos' _, rfl⟩
  exact List.length_pos_of_mem this
theorem dist_all (g : List (List Int)) : (distL g).length ≤ 7 ^ wires g := dist_len_le _ _
theorem dist_in {g : List (List Int)} {x : List Int} : x ∈ distL g ↔ ∃ v, OkV v (wires g) 3 ∧ fieldL g v = x := by
  unfold distL
  rw [dist_mem]
  constructor
  · rintro ⟨j, _, rfl⟩; exact ⟨_, vAt_ok _ _, rfl⟩
  · rintro ⟨v, hv, rfl⟩
    obtain ⟨i, hi, rfl⟩ := vAt_of _ _ hv
    exact ⟨i, hi, rfl⟩
/-- A field is new where the first voltages that make it are these. -/
theorem new_first {g : List (List Int)} {i : Nat} (hi : i < 7 ^ wires g) : (makersL g (fV g i)).getD 0 [] = vAt (wires g) i ↔ newB g i = true := by
  obtain ⟨t, ht⟩ := makers_pre hi (makeB_iff.2 rfl : makeB g (fV g i) (vAt (wires g) i) = true)
  rw [ht, newB_iff]
  constructor
  · intro h j hj he
    have hm : vAt (wires g) j ∈ makersTo g (fV g i) i := by
      unfold makersTo
      rw [List.mem_filter]
      exact ⟨List.mem_map.2 ⟨j, List.mem_range.2 hj, rfl⟩, makeB_iff.2 he⟩
    have hp := List.length_pos_of_mem hm
    rw [getD_l hp] at h
    have h2 : (makersTo g (fV g i) i).getD 0 [] ∈ makersTo g (fV g i) i := by simp [hp]
    rw [h] at h2
    unfold makersTo at h2
    obtain ⟨h3, _⟩ := List.mem_filter.1 h2
    obtain ⟨k, hk, hke⟩ := List.mem_map.1 h3
    have hk := List.mem_range.1 hk
    have := vAt_inj _ _ _ (by omega) hi hke
    omega
  · intro h
    have : makersTo g (fV g i) i = [] := by
      unfold makersTo
      rw [List.filter_eq_nil_iff]
      intro v hv hm
      obtain ⟨j, hj, rfl⟩ := List.mem_map.1 hv
      exact h j (List.mem_range.1 hj) (makeB_iff.1 hm)
    rw [this]; rfl
def quietL (g : List (List Int)) : Option (List Int) := (makersL g (List.replicate g.length 0)).find? fun v => decide (0 < sizeL v)
theorem quiet_less {g : List (List Int)} {v : List Int} (h : quietL g = some v) : (distL g).length < 7 ^ wires g := by
  have h1 := List.mem_of_find?_eq_some h
  have h2 := List.find?_some h
  have h2 := of_decide_eq_true h2
  obtain ⟨h3, h4⟩ := mem_makers.1 h1
  obtain ⟨i, hi, rfl⟩ := vAt_of _ _ h3
  obtain ⟨j, hj, hz⟩ := vAt_of (wires g) _ (ok_zeros (wires g) 3 (by decide))
  have hf : fV g j = fV g i := by unfold fV; rw [hz, field_zero, h4]
  have hne : i ≠ j := by
    rintro rfl
    rw [hz] at h2
    rw [size_zero.2 (by simp)] at h2
    omega
  have hno : ∀ {a b : Nat}, a < b → fV g a = fV g b → newB g b = false := fun {a b} hab he => by
    rcases hb : newB g b with _ | _
    · rfl
    · exact absurd he (newB_iff.1 hb a hab)
  rcases Nat.lt_or_ge i j with h | h
  · exact dist_less (hno h hf.symm) _ hj
  · exact dist_less (hno (by omega) hf) _ hi

/-! Gains without an electrode. -/
def lessL (g : List (List Int)) (k : Nat) : List (List Int) := g.map fun r => r.eraseIdx k
@[simp] theorem lessL_len (g : List (List Int)) (k : Nat) : (lessL g k).length = g.length := by simp [lessL]
theorem lessL_get {g : List (List Int)} {k i : Nat} (h : i < g.length) : (lessL g k).getD i [] = (g.getD i []).eraseIdx k := by simp [lessL, h]
theorem less_wires {g : List (List Int)} {k : Nat} (hg : 0 < g.length) (hk : k < wires g) : wires (lessL g k) = wires g - 1 := by
  unfold wires at hk ⊢
  rw [lessL_get hg, List.length_eraseIdx, if_pos hk]
theorem erase_get (l : List Int) (k j : Nat) : (l.eraseIdx k).getD j 0 = if j < k then l.getD j 0 else l.getD (j + 1) 0 := by
  simp only [List.getD_eq_getElem?_getD, List.getElem?_eraseIdx]; split <;> rfl
theorem less_ok {g : List (List Int)} {k : Nat} (hg : OkG g) (hk : k < wires g) (h2 : 2 ≤ wires g) : OkG (lessL g k) := by
  have hp := hg.pts
  have hw := less_wires (by omega) hk
  have hw3 := hg.wrs
  refine ⟨by simp; omega, by omega, fun i hi => ?_⟩
  simp at hi
  rw [lessL_get hi]
  have hr := hg.row i hi
  refine ⟨?_, fun j => ?_⟩
  · rw [List.length_eraseIdx, if_pos (by rw [hr.len]; exact hk), hr.len, hw]
  · rw [erase_get]; split
    · exact hr.at_ _
    · exact hr.at_ _
def putZ (v : List Int) (k : Nat) : List Int := v.take k ++ 0 :: v.drop k
theorem putZ_len {v : List Int} {k : Nat} (h : k ≤ v.length) : (putZ v k).length = v.length + 1 := by simp [putZ]; omega
theorem putZ_get {v : List Int} {k : Nat} (h : k ≤ v.length) (j : Nat) : (putZ v k).getD j 0 = if j < k then v.getD j 0 else if j = k then 0 else v.getD (j - 1) 0 := by
  unfold putZ
  have hl : (v.take k).length = k := by simp; omega
  rcases Nat.lt_or_ge j k with h1 | h1
  · rw [if_pos h1, getD_append_l (by omega)]
    simp [List.getD_eq_getElem?_getD, h1]
  · rw [if_neg (by omega), getD_append_r (by omega), hl]
    rcases Nat.lt_or_ge k j with h2 | h2
    · rw [if_neg (by omega), show j - k = (j - k - 1) + 1 by omega]
      simp [List.getD_eq_getElem?_getD]
      congr 2; omega
    · rw [if_pos (by omega), show j - k = 0 by omega]; rfl
theorem putZ_ok {v : List Int} {n k : Nat} {m : Int} (hm : 0 ≤ m) (h : OkV v n m) (hk : k ≤ n) : OkV (putZ v k) (n + 1) m := by
  have hl := h.len
  refine ⟨by rw [putZ_len (by omega)]; omega, fun j => ?_⟩
  rw [putZ_get (by omega)]
  split
  · exact h.at_ _
  · split
    · omega
    · exact h.at_ _
theorem dot_less_a (r v : List Int) {k : Nat} (hk : k ≤ v.length) : ∀ j, j ≤ k → dotTo (r.eraseIdx k) v j = dotTo r (putZ v k) j
  | 0, _ => rfl
  | j + 1, h => by
    rw [dotTo, dotTo, dot_less_a r v hk j (by omega), erase_get, if_pos (by omega), putZ_get hk, if_pos (by omega)]
theorem dot_less_b (r v : List Int) {k : Nat} (hk : k ≤ v.length) : ∀ j, k ≤ j → dotTo (r.eraseIdx k) v j = dotTo r (putZ v k) (j + 1)
  | 0, h => by
    obtain rfl : k = 0 := by omega
    rw [dotTo, dotTo, dotTo, putZ_get hk]; simp
  | j + 1, h => by
    rcases Nat.lt_or_ge j k with h' | h'
    · obtain rfl : k = j + 1 := by omega
      rw [dot_less_a r v hk _ (Nat.le_refl _)]
      conv => rhs; rw [dotTo]
      rw [putZ_get hk, if_neg (by omega), if_pos rfl]; simp
    · conv => rhs; rw [dotTo]
      rw [dotTo, dot_less_b r v hk j h', erase_get, if_neg (by omega), putZ_get hk, if_neg (by omega), if_neg (by omega)]
      rfl
theorem field_less {g : List (List Int)} {v : List Int} {k : Nat} (hg : OkG g) (hk : k < wires g) (hv : v.length = wires g - 1) : fieldL (lessL g k) v = fieldL g (putZ v k) := by
  have hp := hg.pts
  refine list_ext (by simp) fun i hi => ?_
  simp at hi
  rw [fieldL_get (by simpa using hi), fieldL_get hi]
  unfold fAt
  rw [lessL_get hi, less_wires (by omega) hk, dot_less_b _ _ (by omega) _ (by omega)]
  congr 1; omega
theorem dist_less_le {g : List (List Int)} {k : Nat} (hg : OkG g) (hk : k < wires g) : (distL (lessL g k)).length ≤ (distL g).length := by
  have hp := hg.pts
  refine nodup_sub (dist_nodup _ _) fun x hx => ?_
  obtain ⟨v, hv, rfl⟩ := dist_in.1 hx
  rw [less_wires (by omega) hk] at hv
  refine dist_in.2 ⟨putZ v k, ?_, (field_less hg hk hv.len).symm⟩
  have := putZ_ok (by decide) hv (show k ≤ wires g - 1 by omega)
  rwa [show wires g - 1 + 1 = wires g by omega] at this

/-! Ramps. -/
def towZ (x b s : Int) : Int := min (max b (x - s)) (x + s)
theorem towZ_if {x b s : Int} (hs : 0 ≤ s) : towZ x b s = if x < b then min b (x + s) else max b (x - s) := by unfold towZ; split <;> omega
def towL (a b : List Int) (s : Int) : List Int := (List.range a.length).map fun k => towZ (a.getD k 0) (b.getD k 0) s
@[simp] theorem towL_len (a b : List Int) (s : Int) : (towL a b s).length = a.length := by simp [towL]
theorem towL_get {a b : List Int} {s : Int} {k : Nat} (h : k < a.length) : (towL a b s).getD k 0 = towZ (a.getD k 0) (b.getD k 0) s := by simp [towL, h]
theorem tow_ok {a b : List Int} {n : Nat} {m s : Int} (hs : 0 ≤ s) (ha : OkV a n m) (hb : OkV b n m) : OkV (towL a b s) n m := by
  refine ⟨by simp [ha.len], fun k => ?_⟩
  have h1 := ha.at_ k
  have h2 := hb.at_ k
  rcases Nat.lt_or_ge k a.length with h | h
  · rw [towL_get h]; unfold towZ; omega
  · rw [getD_out (by simpa using h)]; omega
theorem tow_jump {a b : List Int} {s : Int} (hs : 0 ≤ s) : jumpL (towL a b s) b = max 0 (jumpL a b - s) := by
  refine ext_le (jumpL_pos _ _) (by omega) fun m hm => ?_
  rw [jumpL_le hm, towL_len]
  have h : max 0 (jumpL a b - s) ≤ m ↔ jumpL a b ≤ m + s := by omega
  rw [h, jumpL_le (by omega)]
  constructor
  · intro h i hi
    have := h i hi
    rw [towL_get hi] at this
    unfold towZ gap at *; omega
  · intro h i hi
    have := h i hi
    rw [towL_get hi]
    unfold towZ gap at *; omega
theorem tow_step {a b : List Int} {s : Int} (hs : 0 ≤ s) : jumpL a (towL a b s) = min (jumpL a b) s := by
  refine ext_le (jumpL_pos _ _) (by have := jumpL_pos a b; omega) fun m hm => ?_
  rw [jumpL_le hm]
  constructor
  · intro h
    by_cases hsm : s ≤ m
    · omega
    · have : jumpL a b ≤ m := (jumpL_le hm).2 fun i hi => by
        have := h i hi
        rw [towL_get hi] at this
        unfold towZ gap at *; omega
      omega
  · intro h i hi
    rw [towL_get hi]
    by_cases hsm : s ≤ m
    · unfold towZ gap; omega
    · have := (jumpL_le (a := a) (b := b) hm).1 (by omega) i hi
      unfold towZ gap at *; omega
def rampAt (a b : List Int) (s : Int) : Nat → List Int
  | 0 => a
  | t + 1 => towL (rampAt a b s t) b s
@[simp] theorem rampAt_len (a b : List Int) (s : Int) : ∀ t, (rampAt a b s t).length = a.length
  | 0 => rfl
  | t + 1 => by rw [rampAt, towL_len, rampAt_len a b s t]
theorem ramp_ok {a b : List Int} {n : Nat} {m s : Int} (hs : 0 ≤ s) (ha : OkV a n m) (hb : OkV b n m) : ∀ t, OkV (rampAt a b s t) n m
  | 0 => ha
  | t + 1 => tow_ok hs (ramp_ok hs ha hb t) hb
theorem ramp_jump {a b : List Int} {s : Int} (hs : 0 ≤ s) : ∀ t : Nat, jumpL (rampAt a b s t) b = max 0 (jumpL a b - (t : Int) * s)
  | 0 => by have := jumpL_pos a b; simp only [rampAt]; omega
  | t + 1 => by
    rw [rampAt, tow_jump hs, ramp_jump hs t]
    have : ((t + 1 : Nat) : Int) * s = (t : Int) * s + s := by rw [Int.natCast_add, Int.add_mul]; simp
    omega
/-- How many steps a ramp has. -/
def stepsN (J s : Int) : Nat := ((J + s - 1) / s).toNat
theorem steps_all {J s : Int} (h0 : 0 ≤ J) (hJ : J ≤ 6) (h1 : 1 ≤ s) (h6 : s ≤ 6) : ((stepsN J s : Nat) : Int) = (J + s - 1) / s ∧ stepsN J s ≤ 6 ∧ J ≤ (stepsN J s : Int) * s ∧ ∀ t : Nat, t < stepsN J s → (t : Int) * s < J := by
  have hc : s = 1 ∨ s = 2 ∨ s = 3 ∨ s = 4 ∨ s = 5 ∨ s = 6 := by omega
  unfold stepsN
  rcases hc with rfl | rfl | rfl | rfl | rfl | rfl
  all_goals exact ⟨by omega, by omega, by omega, fun t ht => by omega⟩
theorem ramp_end {a b : List Int} {s : Int} (hl : a.length = b.length) (hJ : jumpL a b ≤ 6) (h1 : 1 ≤ s) (h6 : s ≤ 6) : rampAt a b s (stepsN (jumpL a b) s) = b := by
  obtain ⟨_, _, h3, _⟩ := steps_all (jumpL_pos a b) hJ h1 h6
  refine (jumpL_zero (by simp [hl])).1 ?_
  rw [ramp_jump (by omega)]
  omega
theorem ramp_not {a b : List Int} {s : Int} (hl : a.length = b.length) (hJ : jumpL a b ≤ 6) (h1 : 1 ≤ s) (h6 : s ≤ 6) {t : Nat} (ht : t < stepsN (jumpL a b) s) : rampAt a b s t ≠ b := by
  obtain ⟨_, _, _, h4⟩ := steps_all (jumpL_pos a b) hJ h1 h6
  intro e
  have h5 := (jumpL_zero (a := rampAt a b s t) (b := b) (by simp [hl])).2 e
  rw [ramp_jump (by omega)] at h5
  have := h4 t ht
  omega
theorem ramp_step {a b : List Int} {s : Int} (hJ : jumpL a b ≤ 6) (h1 : 1 ≤ s) (h6 : s ≤ 6) {t : Nat} (ht : t < stepsN (jumpL a b) s) : 1 ≤ jumpL (rampAt a b s t) (rampAt a b s (t + 1)) ∧ jumpL (rampAt a b s t) (rampAt a b s (t + 1)) ≤ s := by
  obtain ⟨_, _, _, h4⟩ := steps_all (jumpL_pos a b) hJ h1 h6
  rw [rampAt, tow_step (by omega), ramp_jump (by omega)]
  have := h4 t ht
  omega
def rampL (a b : List Int) (s : Int) : List (List Int) := (List.range (stepsN (jumpL a b) s + 1)).map (rampAt a b s)
def rampTo (a b : List Int) (s : Int) (t : Nat) : List (List Int) := (List.range (t + 1)).map (rampAt a b s)
theorem rampTo_succ (a b : List Int) (s : Int) (t : Nat) : rampTo a b s (t + 1) = rampTo a b s t ++ [rampAt a b s (t + 1)] := by unfold rampTo; rw [List.range_succ, List.map_append]; rfl
@[simp] theorem rampTo_len (a b : List Int) (s : Int) (t : Nat) : (rampTo a b s t).length = t + 1 := by simp [rampTo]
theorem rampTo_get {a b : List Int} {s : Int} {t i : Nat} (h : i ≤ t) : (rampTo a b s t).getD i [] = rampAt a b s i := by
  have : i < t + 1 := by omega
  simp [rampTo, this]
theorem steps_one {J s : Int} (h0 : 0 ≤ J) (hs : J ≤ s) (h1 : 1 ≤ s) (h6 : s ≤ 6) : (J + s - 1) / s ≤ 1 := by
  have hc : s = 1 ∨ s = 2 ∨ s = 3 ∨ s = 4 ∨ s = 5 ∨ s = 6 := by omega
  rcases hc with rfl | rfl | rfl | rfl | rfl | rfl
  all_goals omega
end Go.Proofs.Ytmmjdabioolodaa
