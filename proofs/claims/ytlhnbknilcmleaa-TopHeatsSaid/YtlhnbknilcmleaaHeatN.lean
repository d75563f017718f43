/- Plans with coolings put in: how many are wanted of them, how they are checked. Lists and numbers alone. -/
import Derived.Test.YtlhnbknilcmleaaHeatM
namespace Go.Proofs.Ytlhnbknilcmleaa

/-- The second list is the first one with coolings put in; of each ion so many. -/
inductive Ins : List T3 → List T3 → (Int → Nat) → Prop
  | none : Ins [] [] (fun _ => 0)
  | keep {p w : List T3} {e : Int → Nat} (a : T3) : Ins p w e → Ins (p ++ [a]) (w ++ [a]) e
  | cool {p w : List T3} {e : Int → Nat} (ion : Int) : Ins p w e → Ins p (w ++ [(2, ion, 0)]) (fun i => if i = ion then e i + 1 else e i)

theorem gr_keep {lim ion : Int} (cp cw e : Nat) (hp hw : Int) (a : T3) (ha : Act4 a) (p0 : 0 ≤ hp) (w0 : 0 ≤ hw)
    (h : cp ≤ cw + e ∧ (cp = cw + e → hp ≤ hw) ∧ cw ≤ cp ∧ (cw = cp → hw ≤ hp)) :
    (gstep lim ion (cp, hp) a).1 ≤ (gstep lim ion (cw, hw) a).1 + e ∧ ((gstep lim ion (cp, hp) a).1 = (gstep lim ion (cw, hw) a).1 + e → (gstep lim ion (cp, hp) a).2 ≤ (gstep lim ion (cw, hw) a).2) ∧
      (gstep lim ion (cw, hw) a).1 ≤ (gstep lim ion (cp, hp) a).1 ∧ ((gstep lim ion (cw, hw) a).1 = (gstep lim ion (cp, hp) a).1 → (gstep lim ion (cw, hw) a).2 ≤ (gstep lim ion (cp, hp) a).2) := by
  obtain ⟨h1, h2, h3, h4⟩ := h
  have hb := ha.h0
  unfold gstep
  by_cases ei : a.2.1 = ion
  · rw [if_pos ei, if_pos ei]
    by_cases e2 : a.1 = 2
    · rw [if_pos e2, if_pos e2]
      simp only
      omega
    · rw [if_neg e2, if_neg e2]
      by_cases e1 : a.1 = 1
      · by_cases x : lim < hp
        · rw [if_pos (show a.1 = 1 ∧ lim < (cp, hp).2 from ⟨e1, x⟩)]
          by_cases y : lim < hw
          · rw [if_pos (show a.1 = 1 ∧ lim < (cw, hw).2 from ⟨e1, y⟩)]
            simp only
            omega
          · rw [if_neg (show ¬ (a.1 = 1 ∧ lim < (cw, hw).2) from fun z => y z.2)]
            simp only
            omega
        · rw [if_neg (show ¬ (a.1 = 1 ∧ lim < (cp, hp).2) from fun z => x z.2)]
          by_cases y : lim < hw
          · rw [if_pos (show a.1 = 1 ∧ lim < (cw, hw).2 from ⟨e1, y⟩)]
            simp only
            omega
          · rw [if_neg (show ¬ (a.1 = 1 ∧ lim < (cw, hw).2) from fun z => y z.2)]
            simp only
            omega
      · rw [if_neg (fun z => e1 z.1), if_neg (fun z => e1 z.1)]
        simp only
        omega
  · rw [if_neg ei, if_neg ei]
    exact ⟨h1, h2, h3, h4⟩
theorem ins_sim {lim : Int} {p w : List T3} {e : Int → Nat} (h : Ins p w e) : Acts p → Acts w → ∀ ion,
    (gr lim p ion).1 ≤ (gr lim w ion).1 + e ion ∧ ((gr lim p ion).1 = (gr lim w ion).1 + e ion → (gr lim p ion).2 ≤ (gr lim w ion).2) ∧ (gr lim w ion).1 ≤ (gr lim p ion).1 ∧ ((gr lim w ion).1 = (gr lim p ion).1 → (gr lim w ion).2 ≤ (gr lim p ion).2) := by
  induction h with
  | none => intro _ _ ion; simp [gr]
  | keep a hi ih =>
    intro hp hw ion
    have := ih hp.left hw.left ion
    rw [gr_snoc, gr_snoc]
    exact gr_keep _ _ _ _ _ a (hp.right a (by simp)) (gr_range hp.left lim ion).1 (gr_range hw.left lim ion).1 this
  | @cool p w e ic hi ih =>
    intro hp hw ion
    have := ih hp hw.left ion
    have r := (gr_range hp lim ion).1
    rw [gr_snoc]
    by_cases c : ion = ic
    · subst c
      have s : gstep lim ion (gr lim w ion) (2, ion, 0) = ((gr lim w ion).1, 0) := by simp [gstep]
      simp only [s, ↓reduceIte]
      omega
    · have s : gstep lim ion (gr lim w ion) (2, ic, 0) = gr lim w ion := by unfold gstep; exact if_neg (fun x => c x.symm)
      simp only [s, c, ↓reduceIte]
      exact this
theorem ins_len {p w : List T3} {e : Int → Nat} (h : Ins p w e) : Acts w → w.length = p.length + (e 0 + e 1 + e 2 + e 3) := by
  induction h with
  | none => intro _; rfl
  | keep a hi ih => intro hw; have := ih hw.left; simp; omega
  | @cool p w e ic hi ih =>
    intro hw
    have := ih hw.left
    have h4 := hw.right (2, ic, 0) (by simp)
    have i0 : 0 ≤ ic := h4.i0
    have i3 : ic ≤ 3 := h4.i3
    rw [List.length_append]
    rcases (show ic = 0 ∨ ic = 1 ∨ ic = 2 ∨ ic = 3 by omega) with e | e | e | e
    all_goals
      subst e
      simp
      omega
/-- A plan wants at most so many coolings more as were put in, and at least as many as behind that. -/
theorem few_ins {lim : Int} {p w : List T3} {e : Int → Nat} (h : Ins p w e) (hp : Acts p) (hw : Acts w) : few lim p ≤ few lim w + (w.length - p.length) ∧ few lim w ≤ few lim p := by
  have s := ins_sim (lim := lim) h hp hw
  have l := ins_len h hw
  have s0 := s 0
  have s1 := s 1
  have s2 := s 2
  have s3 := s 3
  simp only [few, few1]
  omega

/-- The greedy match: how many acts of the plan have been met. -/
def mStep (p : List T3) (k : Nat) (a : T3) : Option Nat := if k < p.length ∧ a = p.getD k t0 then some (k + 1) else if a.1 = 2 then some k else none
def mF (p w : List T3) : Option Nat := w.foldl (fun s a => s.bind fun k => mStep p k a) (some 0)
theorem mF_succ {p w : List T3} {j : Nat} (h : j < w.length) : mF p (w.take (j + 1)) = (mF p (w.take j)).bind fun k => mStep p k (w.getD j t0) := foldl_take _ _ h
theorem mF_snoc (p w : List T3) (a : T3) : mF p (w ++ [a]) = (mF p w).bind fun k => mStep p k a := by simp [mF]
theorem mF_none_later {p w : List T3} {j : Nat} (h : mF p (w.take j) = none) : mF p w = none := by
  rw [← List.take_append_drop j w, mF, List.foldl_append]
  rw [mF] at h
  rw [h]
  generalize w.drop j = t
  clear h
  induction t with
  | nil => rfl
  | cons a t ih => simpa using ih
theorem mF_ins {p : List T3} : ∀ {j : Nat} {w : List T3}, j ≤ w.length → Acts w → ∀ {k}, mF p (w.take j) = some k → k ≤ p.length ∧ k ≤ j ∧ ∃ e, Ins (p.take k) (w.take j) e
  | 0, w, _, _, k, h => by
    simp [mF] at h
    subst h
    exact ⟨Nat.zero_le _, Nat.le_refl _, _, by simpa using Ins.none⟩
  | j + 1, w, hj, hw, k, h => by
    rw [mF_succ (by omega)] at h
    cases hm : mF p (w.take j) with
    | none => rw [hm] at h; simp at h
    | some i =>
      rw [hm] at h
      obtain ⟨h1, h2, e, h3⟩ := mF_ins (by omega) hw hm
      have h4 := hw.get (k := j) (by omega)
      have ht : w.take (j + 1) = w.take j ++ [w.getD j t0] := by rw [List.take_succ_eq_append_getElem (by omega)]; simp [show j < w.length by omega]
      rw [ht]
      generalize w.getD j t0 = a at *
      simp only [Option.bind_some, mStep] at h
      split at h
      · rename_i hc
        injection h with h
        subst h
        have hp : p.take (i + 1) = p.take i ++ [a] := by rw [List.take_succ_eq_append_getElem hc.1]; simp [hc.2, hc.1]
        rw [hp]
        exact ⟨hc.1, by omega, e, .keep a h3⟩
      · split at h
        · rename_i hc
          injection h with h
          subst h
          have ha : a = (2, a.2.1, 0) := by
            obtain ⟨x, y, z⟩ := a
            simp only at hc
            have := h4.hc hc
            simp only at this
            rw [hc, this]
          rw [ha]
          exact ⟨h1, by omega, _, .cool a.2.1 h3⟩
        · cases h
theorem few_check {lim : Int} {p w : List T3} (hp : Acts p) (hw : Acts w) (h : mF p w = some p.length) (hh : hotL lim w = []) : p.length ≤ w.length ∧ few lim p ≤ w.length - p.length := by
  obtain ⟨h1, h2, e, h3⟩ := mF_ins (j := w.length) (Nat.le_refl _) hw (by rwa [List.take_length])
  rw [List.take_length, List.take_length] at h3
  have := (few_ins (lim := lim) h3 hp hw).1
  rw [few_cold hw hh] at this
  exact ⟨h2, by omega⟩

/-- The errors of CheckInsert. -/
def insE (n : Int) (p w : List T3) (lim : Int) : Int :=
  if limE n p lim = 0 then (if w.length ≤ 40 then (if w.all (actB n) then (if mF p w = some p.length then (if hotL lim w = [] then 0 else 8) else 5) else 1) else 3) else limE n p lim
def insV (n : Int) (p w : List T3) (lim : Int) : Int := if insE n p w lim = 0 then (w.length : Int) - p.length else 0
theorem insE_zero {n : Int} {p w : List T3} {lim : Int} : insE n p w lim = 0 ↔ limE n p lim = 0 ∧ w.length ≤ 40 ∧ w.all (actB n) = true ∧ mF p w = some p.length ∧ hotL lim w = [] := by
  unfold insE
  by_cases h1 : limE n p lim = 0
  · rw [if_pos h1]
    by_cases h2 : w.length ≤ 40
    · rw [if_pos h2]
      by_cases h3 : w.all (actB n) = true
      · rw [if_pos h3]
        by_cases h4 : mF p w = some p.length
        · rw [if_pos h4]
          by_cases h5 : hotL lim w = []
          · rw [if_pos h5]; exact ⟨fun _ => ⟨h1, h2, h3, h4, h5⟩, fun _ => rfl⟩
          · rw [if_neg h5]; exact ⟨fun x => (by cases x), fun x => absurd x.2.2.2.2 h5⟩
        · rw [if_neg h4]; exact ⟨fun x => (by cases x), fun x => absurd x.2.2.2.1 h4⟩
      · rw [if_neg h3]; exact ⟨fun x => (by cases x), fun x => absurd x.2.2.1 h3⟩
    · rw [if_neg h2]; exact ⟨fun x => (by cases x), fun x => absurd x.2.1 h2⟩
  · rw [if_neg h1]; exact ⟨fun x => absurd x h1, fun x => absurd x.1 h1⟩
/-- So many were put in, never fewer than the fewest. -/
theorem insV_few {n : Int} {p w : List T3} {lim : Int} (h : insE n p w lim = 0) : (few lim p : Int) ≤ insV n p w lim := by
  obtain ⟨h1, h2, h3, h4, h5⟩ := insE_zero.1 h
  have hv := (limE_zero.1 h1).1
  have hn := (validE_zero.1 hv).1.2
  have := few_check (validE_acts hv) (all_acts hn h3) h4 h5
  rw [insV, if_pos h]; omega

/-- The plan with a cooling just before each gate that wants one. -/
def insTo (lim : Int) (l : List T3) : Nat → List T3
  | 0 => []
  | k + 1 => if trig lim l k then insTo lim l k ++ [(2, (l.getD k t0).2.1, 0)] ++ [l.getD k t0] else insTo lim l k ++ [l.getD k t0]
def insL (lim : Int) (l : List T3) : List T3 := insTo lim l l.length
theorem insTo_len {lim : Int} {l : List T3} (ha : Acts l) : ∀ k, k ≤ l.length → (insTo lim l k).length = k + few lim (l.take k)
  | 0, _ => by simp [insTo, few, few1, gr]
  | k + 1, h => by
    have := insTo_len (lim := lim) ha k (by omega)
    rw [insTo, few_take ha (by omega)]
    split <;> simp <;> omega
theorem insL_len {lim : Int} {l : List T3} (ha : Acts l) : (insL lim l).length = l.length + few lim l := by
  have := insTo_len (lim := lim) ha l.length (Nat.le_refl _)
  rwa [List.take_length] at this
theorem insTo_acts {n : Int} {lim : Int} {l : List T3} (ha : l.all (actB n) = true) : ∀ k, k ≤ l.length → (insTo lim l k).all (actB n) = true
  | 0, _ => by simp [insTo]
  | k + 1, h => by
    have ih := insTo_acts (lim := lim) ha k (by omega)
    have hk : actB n (l.getD k t0) = true := List.all_eq_true.1 ha _ (getD_mem (by omega))
    have hc : actB n (2, (l.getD k t0).2.1, 0) = true := by
      simp only [actB, Bool.and_eq_true, inB_z] at hk ⊢
      exact ⟨⟨⟨⟨by omega, by omega⟩, hk.1.1.2⟩, by omega⟩, by simp⟩
    rw [insTo]
    generalize l.getD k t0 = a at *
    split
    · rw [List.all_append, List.all_append, ih]; simp [hk, hc]
    · rw [List.all_append, ih]; simp [hk]
theorem insTo_match {lim : Int} {l : List T3} : ∀ k, k ≤ l.length → mF l (insTo lim l k) = some k
  | 0, _ => by simp [insTo, mF]
  | k + 1, h => by
    have ih := insTo_match (lim := lim) (l := l) k (by omega)
    have hs : mStep l k (l.getD k t0) = some (k + 1) := by rw [mStep, if_pos ⟨by omega, rfl⟩]
    rw [insTo]
    split
    · rename_i ht
      rw [mF_snoc, mF_snoc, ih]
      have hne : (2, (l.getD k t0).2.1, (0 : Int)) ≠ l.getD k t0 := by
        intro e
        simp only [trig, Bool.and_eq_true, beq_iff_eq] at ht
        have h1 := ht.1
        rw [← e] at h1
        simp at h1
      have hc : mStep l k (2, (l.getD k t0).2.1, 0) = some k := by rw [mStep, if_neg (fun x => hne x.2), if_pos rfl]
      rw [Option.bind_some, hc, Option.bind_some, hs]
    · rw [mF_snoc, ih, Option.bind_some, hs]
theorem insTo_heat {lim : Int} {l : List T3} (ion : Int) : ∀ k, k ≤ l.length → heatO (insTo lim l k) ion = (gr lim (l.take k) ion).2
  | 0, _ => by simp [insTo, heatO, gr]
  | k + 1, h => by
    have ih := insTo_heat (lim := lim) (l := l) ion k (by omega)
    rw [insTo, gr_succ ion (by omega)]
    generalize hx : l.getD k t0 = a
    cases ht : trig lim l k with
    | true =>
      rw [if_pos rfl, heatO_snoc, heatO_snoc, ih]
      simp only [trig, Bool.and_eq_true, beq_iff_eq, decide_eq_true_eq, hx] at ht
      by_cases e : a.2.1 = ion
      · subst e
        have s1 : hstep a.2.1 (gr lim (l.take k) a.2.1).2 (2, a.2.1, 0) = 0 := by simp [hstep]
        rw [s1]
        unfold gstep hstep
        rw [if_pos rfl, if_pos rfl, if_neg (by omega), if_neg (by omega), if_pos ht]
        simp
      · simp [gstep, hstep, e]
    | false =>
      rw [if_neg (by simp), heatO_snoc, ih]
      unfold gstep hstep
      by_cases e : a.2.1 = ion
      · subst e
        rw [if_pos rfl, if_pos rfl]
        by_cases e2 : a.1 = 2
        · rw [if_pos e2, if_pos e2]
        · rw [if_neg e2, if_neg e2, if_neg]
          rintro ⟨e1, hl⟩
          simp only [trig, hx, Bool.and_eq_false_iff, beq_eq_false_iff_ne, decide_eq_false_iff_not] at ht
          rcases ht with x | x
          · exact x e1
          · exact x hl
      · rw [if_neg e, if_neg e]
theorem isHot_app {lim : Int} {w v : List T3} {j : Nat} (h : j < w.length) : isHot lim (w ++ v) j = isHot lim w j := by
  have e : (w ++ v).getD j t0 = w.getD j t0 := by simp [List.getElem?_append_left h]
  simp only [isHot, e, List.take_append_of_le_length (Nat.le_of_lt h)]
theorem hotTo_app {lim : Int} {w v : List T3} : ∀ j, j ≤ w.length → hotTo lim (w ++ v) j = hotTo lim w j
  | 0, _ => rfl
  | j + 1, h => by rw [hotTo, hotTo, hotTo_app j (by omega), isHot_app (by omega)]
theorem hotL_snoc (lim : Int) (w : List T3) (a : T3) : hotL lim (w ++ [a]) = if a.1 = 1 ∧ lim < heatO w a.2.1 then hotL lim w ++ [(w.length : Int)] else hotL lim w := by
  rw [hotL, List.length_append, List.length_singleton, hotTo, hotTo_app _ (Nat.le_refl _)]
  have e : isHot lim (w ++ [a]) w.length = (a.1 == 1 && decide (lim < heatO w a.2.1)) := by simp [isHot]
  rw [e]
  simp only [Bool.and_eq_true, beq_iff_eq, decide_eq_true_eq]
  rfl
theorem insTo_cold {lim : Int} {l : List T3} (hlim : 0 ≤ lim) : ∀ k, k ≤ l.length → hotL lim (insTo lim l k) = []
  | 0, _ => by simp [insTo, hotL, hotTo]
  | k + 1, h => by
    have ih := insTo_cold (l := l) hlim k (by omega)
    have hh := fun ion => insTo_heat (lim := lim) (l := l) ion k (by omega)
    rw [insTo]
    generalize hx : l.getD k t0 = a
    cases ht : trig lim l k with
    | true =>
      rw [if_pos rfl, hotL_snoc, hotL_snoc, ih, heatO_snoc]
      rw [if_neg]
      · simp
      rintro ⟨_, x⟩
      have e0 : hstep a.2.1 (heatO (insTo lim l k) a.2.1) (2, a.2.1, 0) = 0 := by simp [hstep]
      rw [e0] at x
      omega
    | false =>
      rw [if_neg (by simp), hotL_snoc, ih, if_neg]
      rintro ⟨e1, x⟩
      rw [hh] at x
      simp only [trig, hx, Bool.and_eq_false_iff, beq_eq_false_iff_ne, decide_eq_false_iff_not] at ht
      rcases ht with y | y
      · exact y e1
      · exact y x
/-- The plan that is returned is right, with the fewest coolings. -/
theorem insL_check {n : Int} {l : List T3} {lim : Int} (h : limE n l lim = 0) : insE n l (insL lim l) lim = 0 ∧ insV n l (insL lim l) lim = few lim l := by
  obtain ⟨hv, h0, _⟩ := limE_zero.1 h
  obtain ⟨_, h20, hb⟩ := validE_zero.1 hv
  have ha := validE_acts hv
  have hl := insL_len (lim := lim) ha
  have hk := few_len (lim := lim) ha l.length (Nat.le_refl _)
  rw [List.take_length] at hk
  have he : insE n l (insL lim l) lim = 0 := insE_zero.2 ⟨h, by omega, insTo_acts hb _ (Nat.le_refl _), insTo_match _ (Nat.le_refl _), insTo_cold h0 _ (Nat.le_refl _)⟩
  exact ⟨he, by rw [insV, if_pos he, hl]; omega⟩
end Go.Proofs.Ytlhnbknilcmleaa
