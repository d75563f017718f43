/- Windows of a plan: those that are found, and how many there can be. Lists and numbers alone. -/
import Derived.Test.YtlhnbknilcmleaaHeatN
namespace Go.Proofs.Ytlhnbknilcmleaa

/-- Since when an ion has not been cold, and its heat. -/
def sstep (lim ion : Int) (k : Nat) (s : Int × Int) (a : T3) : Int × Int :=
  if a.2.1 = ion then (if a.1 = 2 then (0, 0) else if a.1 = 1 ∧ lim < s.2 then ((k : Int), a.2.2) else (if s.2 = 0 then (k : Int) else s.1, s.2 + a.2.2)) else s
def strTo (lim : Int) (l : List T3) (ion : Int) : Nat → Int × Int
  | 0 => (0, 0)
  | k + 1 => sstep lim ion k (strTo lim l ion k) (l.getD k t0)
theorem strTo_heat {lim : Int} {l : List T3} (ion : Int) : ∀ k, k ≤ l.length → (strTo lim l ion k).2 = (gr lim (l.take k) ion).2
  | 0, _ => by simp [strTo, gr]
  | k + 1, h => by
    have ih := strTo_heat (lim := lim) (l := l) ion k (by omega)
    rw [strTo, gr_succ ion (by omega)]
    unfold sstep gstep
    rw [ih]
    generalize l.getD k t0 = a
    split
    · split
      · rfl
      · split
        · rfl
        · rfl
    · exact ih
def wAt (lim : Int) (l : List T3) (k : Nat) : T3 := ((l.getD k t0).2.1, (strTo lim l (l.getD k t0).2.1 k).1, (k : Int))
def wOf (lim : Int) (l : List T3) (k : Nat) : List T3 := if trig lim l k then [wAt lim l k] else []
def winTo (lim : Int) (l : List T3) (k : Nat) : List T3 := (List.range k).flatMap (wOf lim l)
def winRest (lim : Int) (l : List T3) (k : Nat) : List T3 := (List.range' k (l.length - k)).flatMap (wOf lim l)
def winL (lim : Int) (l : List T3) : List T3 := winTo lim l l.length
theorem winTo_succ (lim : Int) (l : List T3) (k : Nat) : winTo lim l (k + 1) = winTo lim l k ++ wOf lim l k := by
  rw [winTo, List.range_succ, List.flatMap_append]; simp [winTo]
theorem winTo_len {lim : Int} {l : List T3} (ha : Acts l) : ∀ k, k ≤ l.length → (winTo lim l k).length = few lim (l.take k)
  | 0, _ => by simp [winTo, few, few1, gr]
  | k + 1, h => by
    rw [winTo_succ, List.length_append, winTo_len ha k (by omega), few_take ha (by omega), wOf]
    split <;> simp
theorem winL_len {lim : Int} {l : List T3} (ha : Acts l) : (winL lim l).length = few lim l := by
  have := winTo_len (lim := lim) ha l.length (Nat.le_refl _)
  rwa [List.take_length] at this
theorem winRest_zero (lim : Int) (l : List T3) : winRest lim l 0 = winL lim l := by
  rw [winRest, winL, winTo, List.range_eq_range']; rfl
theorem winRest_succ {lim : Int} {l : List T3} {k : Nat} (h : k < l.length) : winRest lim l k = wOf lim l k ++ winRest lim l (k + 1) := by
  obtain ⟨m, hm⟩ : ∃ m, l.length - k = m + 1 := ⟨l.length - k - 1, by omega⟩
  rw [winRest, hm, List.range'_succ, List.flatMap_cons, winRest, show l.length - (k + 1) = m by omega]
theorem winRest_end (lim : Int) (l : List T3) : winRest lim l l.length = [] := by simp [winRest]
theorem winRest_to {lim : Int} {l : List T3} {k : Nat} {v : T3} (h : v ∈ winRest lim l k) : (k : Int) ≤ v.2.2 := by
  rw [winRest, List.mem_flatMap] at h
  obtain ⟨j, hj, hv⟩ := h
  have hjk : k ≤ j := by rw [List.mem_range'] at hj; obtain ⟨i, _, rfl⟩ := hj; omega
  rw [wOf] at hv
  split at hv
  · rw [List.mem_singleton.1 hv, wAt]; simp; omega
  · cases hv
theorem winL_split (lim : Int) (l : List T3) : ∀ k, k ≤ l.length → winL lim l = winTo lim l k ++ winRest lim l k
  | 0, _ => by rw [winRest_zero]; rfl
  | k + 1, h => by rw [winL_split lim l k (by omega), winRest_succ (by omega), winTo_succ, List.append_assoc]

/-- The heats of an ion's acts from one on, if it is not cooled. -/
def seg (l : List T3) (ion : Int) (f : Nat) : Nat → Option Int
  | 0 => some 0
  | m + 1 => (seg l ion f m).bind fun s => if (l.getD (f + m) t0).2.1 = ion then (if (l.getD (f + m) t0).1 = 2 then none else some (s + (l.getD (f + m) t0).2.2)) else some s
/-- Is it a window? -/
def winB (l : List T3) (lim : Int) (w : T3) : Bool :=
  decide (w.2.1 < w.2.2) && (l.getD w.2.1.toNat t0).2.1 == w.1 && (l.getD w.2.2.toNat t0).2.1 == w.1 && (l.getD w.2.2.toNat t0).1 == 1 &&
    (match seg l w.1 w.2.1.toNat (w.2.2.toNat - w.2.1.toNat) with | none => false | some s => decide (lim < s))
def meetB (v w : T3) : Bool := v.1 == w.1 && decide (v.2.1 < w.2.2) && decide (w.2.1 < v.2.2)
def anyMeet (ws : List T3) : Bool := (List.range ws.length).any fun i => (List.range i).any fun k => meetB (ws.getD k t0) (ws.getD i t0)
def numB (n : Int) (l : List T3) (w : T3) : Bool := inB w.1 0 (n - 1) && inB w.2.1 0 ((l.length : Int) - 1) && inB w.2.2 0 ((l.length : Int) - 1)
/-- What is wrong with the windows, one by one. -/
def w1E (n : Int) (l : List T3) (lim : Int) (w : T3) : Int := if numB n l w then (if winB l lim w then 0 else 7) else 1
def wsTo (n : Int) (l : List T3) (lim : Int) (ws : List T3) : Int := match ws with | [] => 0 | w :: t => if w1E n l lim w = 0 then wsTo n l lim t else w1E n l lim w
def winE (n : Int) (l : List T3) (lim : Int) (ws : List T3) : Int :=
  if limE n l lim = 0 then (if ws.length ≤ 20 then (if wsTo n l lim ws = 0 then (if anyMeet ws then 8 else 0) else wsTo n l lim ws) else 3) else limE n l lim
def winV (n : Int) (l : List T3) (lim : Int) (ws : List T3) : Int := if winE n l lim ws = 0 then ws.length else 0
theorem wsTo_zero {n : Int} {l : List T3} {lim : Int} : ∀ {ws : List T3}, wsTo n l lim ws = 0 ↔ ∀ w ∈ ws, w1E n l lim w = 0
  | [] => by simp [wsTo]
  | w :: t => by
    rw [wsTo]
    by_cases h : w1E n l lim w = 0
    · rw [if_pos h, wsTo_zero]; simp [h]
    · rw [if_neg h]
      exact ⟨fun x => absurd x h, fun x => absurd (x w (by simp)) h⟩
theorem wsTo_get {n : Int} {l : List T3} {lim : Int} : ∀ {ws : List T3} {k : Nat}, k < ws.length → (∀ j, j < k → w1E n l lim (ws.getD j t0) = 0) → w1E n l lim (ws.getD k t0) ≠ 0 → wsTo n l lim ws = w1E n l lim (ws.getD k t0)
  | w :: t, 0, _, _, h => by simp at h; simp [wsTo, h]
  | w :: t, k + 1, hk, h0, h => by
    have h1 : w1E n l lim w = 0 := by simpa using h0 0 (by omega)
    rw [wsTo, if_pos h1]
    have := wsTo_get (n := n) (l := l) (lim := lim) (ws := t) (k := k) (by simpa using hk) (fun j hj => by simpa using h0 (j + 1) (by omega)) (by simpa using h)
    simpa using this
theorem w1E_zero {n : Int} {l : List T3} {lim : Int} {w : T3} : w1E n l lim w = 0 ↔ numB n l w = true ∧ winB l lim w = true := by
  unfold w1E
  by_cases h1 : numB n l w = true
  · rw [if_pos h1]
    by_cases h2 : winB l lim w = true
    · rw [if_pos h2]; exact ⟨fun _ => ⟨h1, h2⟩, fun _ => rfl⟩
    · rw [if_neg h2]; exact ⟨fun x => (by cases x), fun x => absurd x.2 h2⟩
  · rw [if_neg h1]; exact ⟨fun x => (by cases x), fun x => absurd x.1 h1⟩
theorem winE_zero {n : Int} {l : List T3} {lim : Int} {ws : List T3} : winE n l lim ws = 0 ↔ limE n l lim = 0 ∧ ws.length ≤ 20 ∧ wsTo n l lim ws = 0 ∧ anyMeet ws = false := by
  unfold winE
  by_cases h1 : limE n l lim = 0
  · rw [if_pos h1]
    by_cases h2 : ws.length ≤ 20
    · rw [if_pos h2]
      by_cases h3 : wsTo n l lim ws = 0
      · rw [if_pos h3]
        by_cases h4 : anyMeet ws = true
        · rw [if_pos h4]; exact ⟨fun x => (by cases x), fun x => by rw [h4] at x; exact absurd x.2.2.2 (by simp)⟩
        · rw [if_neg h4]; exact ⟨fun _ => ⟨h1, h2, h3, by simpa using h4⟩, fun _ => rfl⟩
      · rw [if_neg h3]; exact ⟨fun x => absurd x h3, fun x => absurd x.2.2.1 h3⟩
    · rw [if_neg h2]; exact ⟨fun x => (by cases x), fun x => absurd x.2.1 h2⟩
  · rw [if_neg h1]; exact ⟨fun x => absurd x h1, fun x => absurd x.1 h1⟩

/-- What an ion has had since an act of it, while no cooling was wanted. -/
theorem win_sum {lim : Int} {l : List T3} (ha : Acts l) (ion : Int) (f : Nat) : ∀ m, f + m ≤ l.length → (∀ g, f < g → g < f + m → (l.getD g t0).2.1 = ion → trig lim l g = false) → ∀ s, seg l ion f m = some s → (0 < m → (l.getD f t0).2.1 = ion) → s ≤ (gr lim (l.take (f + m)) ion).2
  | 0, hl, _, s, hs, _ => by
    simp [seg] at hs
    subst hs
    exact (gr_range (ha.take _) lim ion).1
  | m + 1, hl, hno, s, hs, hf => by
    rw [seg] at hs
    cases hp : seg l ion f m with
    | none => rw [hp] at hs; simp at hs
    | some s' =>
      rw [hp, Option.bind_some] at hs
      have hf' := hf (by omega)
      have ih := win_sum (lim := lim) ha ion f m (by omega) (fun g h1 h2 h3 => hno g h1 (by omega) h3) s' hp (fun _ => hf')
      have h4 := ha.get (k := f + m) (by omega)
      have hb := h4.h0
      have hr := (gr_range (ha.take (f + m)) lim ion).1
      rw [show f + (m + 1) = f + m + 1 by omega, gr_succ ion (by omega)]
      unfold gstep
      by_cases e : (l.getD (f + m) t0).2.1 = ion
      · rw [if_pos e] at hs ⊢
        by_cases e2 : (l.getD (f + m) t0).1 = 2
        · rw [if_pos e2] at hs; cases hs
        · rw [if_neg e2] at hs ⊢
          injection hs with hs
          subst hs
          by_cases ht : (l.getD (f + m) t0).1 = 1 ∧ lim < (gr lim (l.take (f + m)) ion).2
          · rw [if_pos ht]
            -- only the first act may be one at which a cooling is wanted
            rcases Nat.eq_zero_or_pos m with h0 | h0
            · subst h0
              simp [seg] at hp
              subst hp
              simp
            · have hn := hno (f + m) (by omega) (by omega) e
              have htr : trig lim l (f + m) = true := by simp only [trig, e, Bool.and_eq_true, beq_iff_eq, decide_eq_true_eq]; exact ht
              rw [htr] at hn; cases hn
          · rw [if_neg ht]; simp; omega
      · rw [if_neg e] at hs ⊢
        injection hs with hs
        subst hs
        exact ih
theorem win_has {lim : Int} {n : Int} {l : List T3} (ha : Acts l) {w : T3} (hn : numB n l w = true) (hw : winB l lim w = true) : ∃ g : Nat, w.2.1 < (g : Int) ∧ (g : Int) ≤ w.2.2 ∧ g < l.length ∧ (l.getD g t0).2.1 = w.1 ∧ trig lim l g = true := by
  obtain ⟨ion, f, t⟩ := w
  simp only [numB, Bool.and_eq_true, inB_z] at hn
  obtain ⟨⟨_, hf⟩, ht⟩ := hn
  simp only [winB, Bool.and_eq_true, decide_eq_true_eq, beq_iff_eq] at hw
  obtain ⟨⟨⟨⟨h1, h2⟩, h3⟩, h4⟩, h5⟩ := hw
  obtain ⟨fn, rfl⟩ : ∃ fn : Nat, f = fn := ⟨f.toNat, by omega⟩
  obtain ⟨tn, rfl⟩ : ∃ tn : Nat, t = tn := ⟨t.toNat, by omega⟩
  simp only [Int.toNat_natCast] at h2 h3 h4 h5
  cases hs : seg l ion fn (tn - fn) with
  | none => rw [hs] at h5; cases h5
  | some s =>
    rw [hs] at h5
    simp only [decide_eq_true_eq] at h5
    have hlt : tn < l.length := by omega
    by_cases hex : ∃ g : Nat, fn < g ∧ g < tn ∧ (l.getD g t0).2.1 = ion ∧ trig lim l g = true
    · obtain ⟨g, g1, g2, g3, g4⟩ := hex
      exact ⟨g, by simp; omega, by simp; omega, by omega, g3, g4⟩
    · have := win_sum (lim := lim) ha ion fn (tn - fn) (by omega) (fun g g1 g2 g3 => by
        cases hg : trig lim l g with
        | false => rfl
        | true => exact absurd ⟨g, g1, by omega, g3, hg⟩ hex) s hs (fun _ => h2)
      rw [show fn + (tn - fn) = tn by omega] at this
      refine ⟨tn, by simp; omega, by simp, hlt, h3, ?_⟩
      simp only [trig, h3, h4, Bool.and_eq_true, beq_iff_eq, decide_eq_true_eq]
      exact ⟨trivial, by omega⟩
theorem nodup_len {α : Type} [DecidableEq α] : ∀ {l m : List α}, l.Nodup → (∀ x ∈ l, x ∈ m) → l.length ≤ m.length
  | [], _, _, _ => Nat.zero_le _
  | x :: t, m, hn, hs => by
    have h1 : x ∈ m := hs x (by simp)
    rw [List.nodup_cons] at hn
    have := nodup_len (l := t) (m := m.erase x) hn.2 (fun y hy => by
      have hne : y ≠ x := fun e => hn.1 (e ▸ hy)
      exact (List.mem_erase_of_ne hne).2 (hs y (by simp [hy])))
    rw [List.length_erase_of_mem h1] at this
    have hp := List.length_pos_of_mem h1
    simp only [List.length_cons]; omega
theorem trig_count {lim : Int} {l : List T3} (ha : Acts l) : ∀ k, k ≤ l.length → ((List.range k).filter (trig lim l)).length = few lim (l.take k)
  | 0, _ => by simp [few, few1, gr]
  | k + 1, h => by
    rw [List.range_succ, List.filter_append, List.length_append, trig_count ha k (by omega), few_take ha (by omega)]
    cases ht : trig lim l k <;> simp [ht]
theorem anyMeet_false {ws : List T3} : anyMeet ws = false ↔ ∀ i k, k < i → i < ws.length → meetB (ws.getD k t0) (ws.getD i t0) = false := by
  simp only [anyMeet, List.any_eq_false, List.mem_range, Bool.not_eq_true]
  exact ⟨fun h i k hk hi => h i hi k hk, fun h i hi k hk => h i k hk hi⟩
/-- No more windows than coolings. -/
theorem win_le {n : Int} {l : List T3} {lim : Int} {ws : List T3} (h : winE n l lim ws = 0) : ws.length ≤ few lim l := by
  obtain ⟨h1, _, h3, h4⟩ := winE_zero.1 h
  have ha := validE_acts (limE_zero.1 h1).1
  have hw := wsTo_zero.1 h3
  have hG : ∀ w : T3, ∃ g : Nat, w ∈ ws → (w.2.1 < (g : Int) ∧ (g : Int) ≤ w.2.2 ∧ g < l.length ∧ (l.getD g t0).2.1 = w.1 ∧ trig lim l g = true) := fun w => by
    by_cases hm : w ∈ ws
    · obtain ⟨a, b⟩ := w1E_zero.1 (hw w hm)
      obtain ⟨g, hg⟩ := win_has ha a b
      exact ⟨g, fun _ => hg⟩
    · exact ⟨0, fun x => absurd x hm⟩
  obtain ⟨G, hG⟩ : ∃ G : T3 → Nat, ∀ w, w ∈ ws → (w.2.1 < (G w : Int) ∧ (G w : Int) ≤ w.2.2 ∧ G w < l.length ∧ (l.getD (G w) t0).2.1 = w.1 ∧ trig lim l (G w) = true) := ⟨fun w => Classical.choose (hG w), fun w => Classical.choose_spec (hG w)⟩
  have hnd : (ws.map G).Nodup := by
    rw [List.Nodup, List.pairwise_map, List.pairwise_iff_getElem]
    intro i j hi hj hij he
    obtain ⟨a1, a2, a3, a4, a5⟩ := hG ws[i] (List.getElem_mem hi)
    obtain ⟨b1, b2, b3, b4, b5⟩ := hG ws[j] (List.getElem_mem hj)
    have hm := anyMeet_false.1 h4 j i hij hj
    have e1 : ws.getD i t0 = ws[i] := by simp [hi]
    have e2 : ws.getD j t0 = ws[j] := by simp [hj]
    rw [e1, e2] at hm
    rw [he] at a1 a2 a4
    have hmt : meetB ws[i] ws[j] = true := by
      simp only [meetB, Bool.and_eq_true, beq_iff_eq, decide_eq_true_eq]
      exact ⟨⟨by rw [← a4, ← b4], by omega⟩, by omega⟩
    rw [hmt] at hm; cases hm
  have hsub : ∀ x ∈ ws.map G, x ∈ (List.range l.length).filter (trig lim l) := fun x hx => by
    obtain ⟨w, hm, rfl⟩ := List.mem_map.1 hx
    obtain ⟨_, _, c3, _, c5⟩ := hG w hm
    rw [List.mem_filter]
    exact ⟨List.mem_range.2 c3, c5⟩
  have hc := nodup_len hnd hsub
  have ht := trig_count (lim := lim) ha l.length (Nat.le_refl _)
  rw [List.length_map] at hc
  rw [List.take_length] at ht
  omega
/-- What an ion has had since then. -/
theorem str_seg {lim : Int} {l : List T3} (ha : Acts l) (ion : Int) : ∀ k, k ≤ l.length → 0 < (strTo lim l ion k).2 → ∃ f : Nat, (strTo lim l ion k).1 = (f : Int) ∧ f < k ∧ (l.getD f t0).2.1 = ion ∧ seg l ion f (k - f) = some (strTo lim l ion k).2
  | 0, _, h => by simp [strTo] at h
  | k + 1, hk, h => by
    have ih := str_seg (lim := lim) ha ion k (by omega)
    have hr : 0 ≤ (strTo lim l ion k).2 := by rw [strTo_heat ion k (by omega)]; exact (gr_range (ha.take k) lim ion).1
    have hsegnew : (l.getD k t0).2.1 = ion → (l.getD k t0).1 ≠ 2 → seg l ion k (k + 1 - k) = some (l.getD k t0).2.2 := fun e e2 => by
      rw [show k + 1 - k = 0 + 1 by omega, seg]
      simp only [seg, Option.bind_some, Nat.add_zero]
      rw [if_pos e, if_neg e2, Int.zero_add]
    rw [strTo] at h ⊢
    unfold sstep at h ⊢
    by_cases e : (l.getD k t0).2.1 = ion
    · rw [if_pos e] at h ⊢
      by_cases e2 : (l.getD k t0).1 = 2
      · rw [if_pos e2] at h; simp at h
      · rw [if_neg e2] at h ⊢
        by_cases ht : (l.getD k t0).1 = 1 ∧ lim < (strTo lim l ion k).2
        · rw [if_pos ht]
          exact ⟨k, rfl, by omega, e, hsegnew e e2⟩
        · rw [if_neg ht]
          by_cases hz : (strTo lim l ion k).2 = 0
          · rw [if_pos hz, hz, Int.zero_add]
            exact ⟨k, rfl, by omega, e, hsegnew e e2⟩
          · rw [if_neg hz]
            obtain ⟨f, h1, h2, h3, h4⟩ := ih (by omega)
            refine ⟨f, h1, by omega, h3, ?_⟩
            rw [show k + 1 - f = (k - f) + 1 by omega, seg, h4]
            simp only [Option.bind_some]
            rw [show f + (k - f) = k by omega, if_pos e, if_neg e2]
    · rw [if_neg e] at h ⊢
      obtain ⟨f, h1, h2, h3, h4⟩ := ih h
      refine ⟨f, h1, by omega, h3, ?_⟩
      rw [show k + 1 - f = (k - f) + 1 by omega, seg, h4]
      simp only [Option.bind_some]
      rw [show f + (k - f) = k by omega, if_neg e]
theorem str_after {lim : Int} {l : List T3} (ha : Acts l) (ion : Int) {j : Nat} (hj : trig lim l j = true) (hi : (l.getD j t0).2.1 = ion) : ∀ k, k ≤ l.length → j < k → 0 < (strTo lim l ion k).2 → (j : Int) ≤ (strTo lim l ion k).1
  | 0, _, h, _ => by omega
  | k + 1, hk, hjk, h => by
    have hr : 0 ≤ (strTo lim l ion k).2 := by rw [strTo_heat ion k (by omega)]; exact (gr_range (ha.take k) lim ion).1
    rw [strTo] at h ⊢
    unfold sstep at h ⊢
    by_cases e : (l.getD k t0).2.1 = ion
    · rw [if_pos e] at h ⊢
      by_cases e2 : (l.getD k t0).1 = 2
      · rw [if_pos e2] at h; simp at h
      · rw [if_neg e2] at h ⊢
        by_cases ht : (l.getD k t0).1 = 1 ∧ lim < (strTo lim l ion k).2
        · rw [if_pos ht]; simp; omega
        · rw [if_neg ht] at h ⊢
          by_cases hz : (strTo lim l ion k).2 = 0
          · rw [if_pos hz]; simp; omega
          · rw [if_neg hz]
            rcases Nat.lt_or_ge j k with x | x
            · exact str_after ha ion hj hi k (by omega) x (by omega)
            · obtain rfl : j = k := by omega
              simp only [trig, hi, Bool.and_eq_true, beq_iff_eq, decide_eq_true_eq] at hj
              rw [strTo_heat ion j (by omega)] at ht
              exact absurd hj ht
    · rw [if_neg e] at h ⊢
      have hne : j ≠ k := by rintro rfl; exact e hi
      exact str_after ha ion hj hi k (by omega) (by omega) h
theorem wAt_right {n : Int} {lim : Int} {l : List T3} (hb : l.all (actB n) = true) (ha : Acts l) (hlim : 0 ≤ lim) {k : Nat} (hk : k < l.length) (ht : trig lim l k = true) : numB n l (wAt lim l k) = true ∧ winB l lim (wAt lim l k) = true := by
  have hak : actB n (l.getD k t0) = true := List.all_eq_true.1 hb _ (getD_mem hk)
  simp only [actB, Bool.and_eq_true] at hak
  simp only [trig, Bool.and_eq_true, beq_iff_eq, decide_eq_true_eq] at ht
  obtain ⟨h1, h2⟩ := ht
  have hs := strTo_heat (lim := lim) (l := l) (l.getD k t0).2.1 k (by omega)
  rw [← hs] at h2
  obtain ⟨f, f1, f2, f3, f4⟩ := str_seg (lim := lim) ha (l.getD k t0).2.1 k (by omega) (by omega)
  constructor
  · simp only [numB, wAt, Bool.and_eq_true, f1]
    exact ⟨⟨hak.1.1.2, inB_z.2 (by omega)⟩, inB_z.2 (by omega)⟩
  · simp only [winB, wAt, f1, Int.toNat_natCast, f4, f3, h1]
    simp only [Bool.and_eq_true, decide_eq_true_eq, beq_iff_eq]
    exact ⟨⟨⟨⟨by omega, trivial⟩, trivial⟩, trivial⟩, h2⟩
theorem winTo_mem {lim : Int} {l : List T3} {k : Nat} {w : T3} (h : w ∈ winTo lim l k) : ∃ j, j < k ∧ trig lim l j = true ∧ w = wAt lim l j := by
  rw [winTo, List.mem_flatMap] at h
  obtain ⟨j, hj, hw⟩ := h
  rw [wOf] at hw
  split at hw
  · rename_i ht
    exact ⟨j, List.mem_range.1 hj, ht, List.mem_singleton.1 hw⟩
  · cases hw
theorem win_pair {lim : Int} {l : List T3} (ha : Acts l) (hlim : 0 ≤ lim) : ∀ k, k ≤ l.length → (winTo lim l k).Pairwise (fun v w => meetB v w = false)
  | 0, _ => by simp [winTo]
  | k + 1, hk => by
    rw [winTo_succ, List.pairwise_append]
    refine ⟨win_pair ha hlim k (by omega), ?_, ?_⟩
    · rw [wOf]; split <;> simp
    · intro v hv w hw
      obtain ⟨j, hj, ht, rfl⟩ := winTo_mem hv
      rw [wOf] at hw
      split at hw
      · rename_i htk
        rw [List.mem_singleton.1 hw]
        cases hm : meetB (wAt lim l j) (wAt lim l k) with
        | false => rfl
        | true =>
          simp only [meetB, wAt, Bool.and_eq_true, beq_iff_eq] at hm
          obtain ⟨⟨m1, _⟩, m3⟩ := hm
          have m3 := of_decide_eq_true m3
          have hs := strTo_heat (lim := lim) (l := l) (l.getD k t0).2.1 k (by omega)
          simp only [trig, Bool.and_eq_true, beq_iff_eq, decide_eq_true_eq] at htk
          have := str_after ha (l.getD k t0).2.1 ht m1 k (by omega) hj (by omega)
          omega
      · cases hw
/-- The windows that are found are right, and as many as the fewest coolings. -/
theorem winL_check {n : Int} {l : List T3} {lim : Int} (h : limE n l lim = 0) : winE n l lim (winL lim l) = 0 ∧ winV n l lim (winL lim l) = few lim l := by
  obtain ⟨hv, h0, _⟩ := limE_zero.1 h
  obtain ⟨_, h20, hb⟩ := validE_zero.1 hv
  have ha := validE_acts hv
  have hl := winL_len (lim := lim) ha
  have hk := few_len (lim := lim) ha l.length (Nat.le_refl _)
  rw [List.take_length] at hk
  have hw : wsTo n l lim (winL lim l) = 0 := wsTo_zero.2 fun w hw => by
    obtain ⟨j, hj, ht, rfl⟩ := winTo_mem hw
    exact w1E_zero.2 (wAt_right hb ha h0 hj ht)
  have hm : anyMeet (winL lim l) = false := anyMeet_false.2 fun i k hki hi => by
    have hp := List.pairwise_iff_getElem.1 (win_pair (lim := lim) ha h0 l.length (Nat.le_refl _)) k i (by rw [winL] at hi; omega) (by rw [winL] at hi; exact hi) hki
    rw [winL] at hi ⊢
    have e1 : (winTo lim l l.length).getD k t0 = (winTo lim l l.length)[k]'(by omega) := by simp [show k < (winTo lim l l.length).length by omega]
    have e2 : (winTo lim l l.length).getD i t0 = (winTo lim l l.length)[i] := by simp [hi]
    rw [e1, e2]; exact hp
  have he : winE n l lim (winL lim l) = 0 := winE_zero.2 ⟨h, by omega, hw, hm⟩
  exact ⟨he, by rw [winV, if_pos he, hl]⟩
end Go.Proofs.Ytlhnbknilcmleaa
