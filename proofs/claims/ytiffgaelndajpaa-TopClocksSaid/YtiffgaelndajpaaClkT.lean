/- Jobs in time: tables that keep them; time turned round, other times, more time, jobs left out. Lists and numbers alone. -/
import Derived.Test.YtiffgaelndajpaaClkP
namespace Go.Proofs.Ytiffgaelndajpaa

/- Tables. -/
def numB (n : Nat) (k : Int) : Bool := k == -1 || (decide (0 ≤ k) && decide (k < (n : Int)))
def timeB (l : List T3) (t : Nat) (k : Int) : Bool := decide (k < 0) || (decide ((l.getD k.toNat t0).1 ≤ (t : Int)) && decide ((t : Int) < (l.getD k.toNat t0).2.1))
def numsB (n : Nat) (tb : List Int) : Bool := tb.all (numB n)
def timesTo (l : List T3) (tb : List Int) (m : Nat) : Bool := (List.range m).all fun t => timeB l t (tb.getD t 0)
def cntStep (cs : List Int) (k : Int) : List Int := if k < 0 then cs else cs.set k.toNat (cs.getD k.toNat 0 + 1)
def cntsTo (n : Nat) (tb : List Int) : Nat → List Int
  | 0 => List.replicate n 0
  | t + 1 => cntStep (cntsTo n tb t) (tb.getD t 0)
def enoughTo (l : List T3) (cs : List Int) (m : Nat) : Bool := (List.range m).all fun k => cs.getD k 0 == (l.getD k t0).2.2
def enoughB (l : List T3) (tb : List Int) : Bool := enoughTo l (cntsTo l.length tb tb.length) l.length
def tabE (l : List T3) (tb : List Int) : Int :=
  if validE l = 0 then (if 60 < tb.length then 3 else if numsB l.length tb then (if timesTo l tb tb.length then (if enoughB l tb then 0 else 7) else 8) else 1) else validE l
theorem cntStep_len (cs : List Int) (k : Int) : (cntStep cs k).length = cs.length := by unfold cntStep; split <;> simp
@[simp] theorem cntsTo_len (n : Nat) (tb : List Int) : ∀ t, (cntsTo n tb t).length = n
  | 0 => by simp [cntsTo]
  | t + 1 => by rw [cntsTo, cntStep_len, cntsTo_len n tb t]
theorem cntStep_get (cs : List Int) (x : Int) (k : Nat) (hk : k < cs.length) : (cntStep cs x).getD k 0 = cs.getD k 0 + if x = (k : Int) then 1 else 0 := by
  unfold cntStep
  by_cases hf : x < 0
  · rw [if_pos hf, if_neg (by omega)]; simp
  · rw [if_neg hf]
    by_cases e : x = (k : Int)
    · subst e; rw [if_pos rfl]; simp [List.getD_eq_getElem?_getD, hk]
    · rw [if_neg e, List.getD_eq_getElem?_getD, List.getElem?_set_ne (by omega), ← List.getD_eq_getElem?_getD]; simp
theorem cntsTo_get (n : Nat) (tb : List Int) {k : Nat} (hk : k < n) : ∀ t, (cntsTo n tb t).getD k 0 = (cntP (fun t => tb.getD t 0 == (k : Int)) t : Int)
  | 0 => by simp [cntsTo, cntP, hk]
  | t + 1 => by
    rw [cntsTo, cntStep_get _ _ _ (by simpa using hk), cntsTo_get n tb hk t, cntP]
    by_cases e : tb.getD t 0 = (k : Int)
    · have : (tb.getD t 0 == (k : Int)) = true := by simpa using e
      rw [if_pos e, this]; rfl
    · have : (tb.getD t 0 == (k : Int)) = false := by simpa using e
      rw [if_neg e, this]; rfl
theorem cntP_le (P : Nat → Bool) : ∀ n, cntP P n ≤ n
  | 0 => Nat.le_refl _
  | n + 1 => by have := cntP_le P n; rw [cntP]; split <;> omega
theorem cntP_congr {P Q : Nat → Bool} : ∀ {n : Nat}, (∀ t, t < n → P t = Q t) → cntP P n = cntP Q n
  | 0, _ => rfl
  | n + 1, h => by rw [cntP, cntP, cntP_congr fun t ht => h t (by omega), h n (by omega)]
theorem tabE_zero {l : List T3} {tb : List Int} : tabE l tb = 0 ↔ Ok l ∧ tb.length ≤ 60 ∧ numsB l.length tb = true ∧ timesTo l tb tb.length = true ∧ enoughB l tb = true := by
  rw [← validE_ok]
  unfold tabE
  by_cases h1 : validE l = 0
  · rw [if_pos h1]
    by_cases h2 : 60 < tb.length
    · rw [if_pos h2]; exact ⟨fun x => (by cases x), fun x => absurd x.2.1 (by omega)⟩
    · rw [if_neg h2]
      by_cases h3 : numsB l.length tb = true
      · rw [if_pos h3]
        by_cases h4 : timesTo l tb tb.length = true
        · rw [if_pos h4]
          by_cases h5 : enoughB l tb = true
          · rw [if_pos h5]; exact ⟨fun _ => ⟨h1, by omega, h3, h4, h5⟩, fun _ => rfl⟩
          · rw [if_neg h5]; exact ⟨fun x => (by cases x), fun x => absurd x.2.2.2.2 h5⟩
        · rw [if_neg h4]; exact ⟨fun x => (by cases x), fun x => absurd x.2.2.2.1 h4⟩
      · rw [if_neg h3]; exact ⟨fun x => (by cases x), fun x => absurd x.2.2.1 h3⟩
  · rw [if_neg h1]; exact ⟨fun x => absurd x h1, fun x => absurd x.1 h1⟩
theorem enoughTo_z {l : List T3} {cs : List Int} {m : Nat} : enoughTo l cs m = true ↔ ∀ k, k < m → cs.getD k 0 = (l.getD k t0).2.2 := by simp [enoughTo]
theorem timesTo_z {l : List T3} {tb : List Int} {m : Nat} : timesTo l tb m = true ↔ ∀ t, t < m → timeB l t (tb.getD t 0) = true := by simp [timesTo]
/-- Whatever table keeps the jobs: they can be kept. -/
theorem keeps_can {l : List T3} {tb : List Int} (h : tabE l tb = 0) : lateL l ≤ 0 := by
  obtain ⟨hl, h60, hn, ht, he⟩ := tabE_zero.1 h
  by_cases hz : 0 < l.length
  · rw [lateL_iff hl hz]
    refine late_ge (T := fun t => tb.getD t 0) (N := tb.length) (fun k hk => ?_) (fun t k h1 h2 h3 => ?_) (fun t k h1 h2 h3 => ?_)
    · rw [← cntsTo_get l.length tb hk]
      exact enoughTo_z.1 he k hk
    all_goals
      have h4 := timesTo_z.1 ht t h1
      rw [timeB, h3] at h4
      have h5 : ¬ (k : Int) < 0 := by omega
      simp only [decide_eq_false h5, Bool.false_or, Bool.and_eq_true, decide_eq_true_eq, Int.toNat_natCast] at h4
      omega
  · rw [lateL, if_pos (by omega)]; omega
/-- The table by urgency keeps what can be kept. -/
theorem urg_keeps {l : List T3} (hl : Ok l) (h : lateL l ≤ 0) : tabE l (urgL l) = 0 := by
  have hlen : (urgL l).length = lenU l := unitsTo_len _ _
  have hsp := lenG_spec (picks_next l) hl
  have hin : ∀ t k, t < lenU l → k < l.length → pickAt l t = (k : Int) → (l.getD k t0).1 ≤ (t : Int) ∧ (t : Int) + 1 ≤ (l.getD k t0).2.1 := fun t k ht hk hp => by
    refine ⟨pick_from (picks_next l) t k hk hp, ?_⟩
    obtain ⟨u, h1, h2, h3, h4⟩ := endsL_is hl hk
    have h5 := h4 t ht hp
    rw [lateL] at h
    split at h
    · omega
    · have := (lateTo_le.1 h).2 k hk
      omega
  have hN : lenU l ≤ 60 := by
    rcases Nat.lt_or_ge 60 (lenU l) with x | x
    · exfalso
      have h0 := hsp.2.2 (lenU l - 1) (by unfold lenU at *; omega)
      have e1 : lenU l - 1 + 1 = lenU l := by omega
      rcases sumN_less (picks_next l) hl.jobs (lenU l - 1) h0 with ⟨_, h2⟩ | ⟨h2, h3, h4⟩
      · have h3 := (pickAt_range l (lenU l - 1)).2
        have e2 : pickG nextF l (lenU l - 1) = pickAt l (lenU l - 1) := rfl
        rw [e2] at h2
        have h5 := hin (lenU l - 1) (pickAt l (lenU l - 1)).toNat (by omega) (by omega) (by omega)
        have h6 := (hl.jobs.get (k := (pickAt l (lenU l - 1)).toNat) (by omega)).b1
        omega
      · omega
    · exact x
  refine tabE_zero.2 ⟨hl, by omega, ?_, ?_, ?_⟩
  · rw [numsB, List.all_eq_true]
    intro x hx
    simp only [urgL, unitsTo, List.mem_map, List.mem_range] at hx
    obtain ⟨t, _, rfl⟩ := hx
    have := pickAt_range l t
    simp [numB]; omega
  · rw [hlen, timesTo_z]
    intro t ht
    rw [urgL, unitsTo_get _ _ _ ht, timeB]
    rcases Int.lt_or_le (pickAt l t) 0 with x | x
    · simp [x]
    · have h1 := (pickAt_range l t).2
      have h2 := hin t (pickAt l t).toNat ht (by omega) (by omega)
      rw [decide_eq_true h2.1, decide_eq_true (show (t : Int) < (l.getD (pickAt l t).toNat t0).2.1 by omega)]; simp
  · rw [enoughB, enoughTo_z]
    intro k hk
    have e : cntP (fun t => (urgL l).getD t 0 == (k : Int)) (lenU l) = cntP (fun t => pickG nextF l t == (k : Int)) (lenU l) := cntP_congr fun t ht => by
      rw [urgL, unitsTo_get _ _ _ ht, pickAt]
    have hd := done_all (picks_next l) hl hk
    refine (cntsTo_get _ _ hk _).trans ?_
    rw [hlen, e]
    exact hd

/- Other jobs. -/
def turnJ (j : T3) : T3 := (60 - j.2.1, 60 - j.1, j.2.2)
def addJ (f b : Int) (j : T3) : T3 := (j.1 + f, j.2.1 + b, j.2.2)
theorem map_getD (g : T3 → T3) {l : List T3} {k : Nat} (h : k < l.length) : (l.map g).getD k t0 = g (l.getD k t0) := by simp [h]
theorem turn_ok {l : List T3} (hl : Ok l) : Ok (l.map turnJ) := by
  refine ⟨by simpa using hl.len, fun a ha => ?_, fun k hk => ?_⟩
  · obtain ⟨j, hj, rfl⟩ := List.mem_map.1 ha
    obtain ⟨h1, h2, h3, h4, h5⟩ := hl.jobs j hj
    exact ⟨by simp only [turnJ]; omega, by simp only [turnJ]; omega, by simp only [turnJ]; omega, h4, h5⟩
  · rw [map_getD _ (by simpa using hk)]
    exact hl.need k (by simpa using hk)
theorem turn_turn (l : List T3) : (l.map turnJ).map turnJ = l := by
  rw [List.map_map]
  have : turnJ ∘ turnJ = id := by
    funext ⟨a, b, c⟩
    simp only [Function.comp, turnJ, id]
    exact Prod.ext (by show 60 - (60 - a) = a; omega) (Prod.ext (by show 60 - (60 - b) = b; omega) rfl)
  rw [this, List.map_id]
theorem dem_map {l : List T3} {g : T3 → T3} {a b a' b' : Int} (h : ∀ j ∈ l, inS a b (g j) = inS a' b' j ∧ (g j).2.2 = j.2.2) : dem (l.map g) a b = dem l a' b' := by
  unfold dem demTo
  rw [List.length_map]
  refine sumTo_eq fun k hk => ?_
  unfold dpart
  rw [map_getD g hk]
  obtain ⟨h1, h2⟩ := h _ (getD_mem hk)
  rw [h1, h2]
theorem dem_turn (l : List T3) (a b : Int) : dem (l.map turnJ) a b = dem l (60 - b) (60 - a) := dem_map fun j _ => by
  refine ⟨?_, rfl⟩
  rw [Bool.eq_iff_iff, inS_z, inS_z]
  simp only [turnJ]; omega
theorem dem_add (l : List T3) (f b' a b : Int) : dem (l.map (addJ f b')) a b = dem l (a - f) (b - b') := dem_map fun j _ => by
  refine ⟨?_, rfl⟩
  rw [Bool.eq_iff_iff, inS_z, inS_z]
  simp only [addJ]; omega
theorem late_turn {l : List T3} (hl : Ok l) : lateL (l.map turnJ) = lateL l := by
  by_cases hn : 0 < l.length
  · have key : ∀ M, lateL (l.map turnJ) ≤ M ↔ lateL l ≤ M := fun M => by
      rw [lateL_iff hl hn, lateL_iff (turn_ok hl) (by simpa using hn)]
      constructor
      · intro h a b hd
        have := h (60 - b) (60 - a)
        rw [dem_turn, show 60 - (60 - a) = a by omega, show 60 - (60 - b) = b by omega] at this
        have := this hd; omega
      · intro h a b hd
        rw [dem_turn] at hd ⊢
        have := h _ _ hd; omega
    have h1 := (key _).1 (Int.le_refl _)
    have h2 := (key _).2 (Int.le_refl _)
    omega
  · rw [lateL, lateL, if_pos (by rw [List.length_map]; omega), if_pos (by omega)]
theorem slack_turn {l : List T3} (hl : Ok l) : slackL (l.map turnJ) = slackL l := by
  have h1 := late_slack hl
  have h2 := late_slack (turn_ok hl)
  have h3 := late_turn hl
  omega
theorem speed_turn {l : List T3} (hl : Ok l) : speedL (l.map turnJ) = speedL l := by
  refine IsSpeed.uniq (l := l) ?_ (speedL_is hl)
  have h := speedL_is (turn_ok hl)
  refine ⟨h.n0, h.d0, h.n1, h.d1, h.low, fun s hs => ?_, ?_⟩
  · have h1 := mem_strL.1 hs
    have h2 := h.all (60 - s.2, 60 - s.1) (mem_strL.2 (by simp only []; omega))
    rw [dem_turn] at h2
    simp only [] at h2
    rw [show 60 - (60 - s.1) = s.1 by omega, show 60 - (60 - s.2) = s.2 by omega, show 60 - s.1 - (60 - s.2) = s.2 - s.1 by omega] at h2
    exact h2
  · rcases h.one with h1 | ⟨s, hs, h1⟩
    · exact .inl h1
    · have h2 := mem_strL.1 hs
      rw [dem_turn] at h1
      refine .inr ⟨(60 - s.2, 60 - s.1), mem_strL.2 (by simp only []; omega), ?_⟩
      simp only []
      rw [h1, show 60 - s.1 - (60 - s.2) = s.2 - s.1 by omega]
theorem late_add {l : List T3} (hl : Ok l) {f b : Int} (ho : Ok (l.map (addJ f b))) (hn : 0 < l.length) : lateL (l.map (addJ f b)) = lateL l - (b - f) := by
  have key : ∀ M, lateL (l.map (addJ f b)) ≤ M ↔ lateL l ≤ M + (b - f) := fun M => by
    rw [lateL_iff hl hn, lateL_iff ho (by simpa using hn)]
    constructor
    · intro h x y hd
      have := h (x + f) (y + b)
      rw [dem_add, show x + f - f = x by omega, show y + b - b = y by omega] at this
      have := this hd; omega
    · intro h x y hd
      rw [dem_add] at hd ⊢
      have := h _ _ hd; omega
  have h1 := (key _).1 (Int.le_refl _)
  have h2 := (key (lateL l - (b - f))).2 (by omega)
  omega
theorem late_shift {l : List T3} (hl : Ok l) {f : Int} (ho : Ok (l.map (addJ f f))) : lateL (l.map (addJ f f)) = lateL l := by
  by_cases hn : 0 < l.length
  · rw [late_add hl ho hn]; omega
  · rw [lateL, lateL, if_pos (by rw [List.length_map]; omega), if_pos (by omega)]
theorem slack_shift {l : List T3} (hl : Ok l) {f : Int} (ho : Ok (l.map (addJ f f))) : slackL (l.map (addJ f f)) = slackL l := by
  have h1 := late_slack hl
  have h2 := late_slack ho
  have h3 := late_shift hl ho
  omega
/-- The sum over a list without one. -/
theorem dem_sum (l : List T3) (a b : Int) : ∀ k, k ≤ l.length → demTo l a b k = ((l.take k).map fun j => if inS a b j then j.2.2 else 0).sum
  | 0, _ => by simp [demTo, sumTo]
  | k + 1, h => by
    have h4 : l.getD k t0 = l[k] := by simp [show k < l.length by omega]
    rw [demTo_succ, dem_sum l a b k (by omega), List.take_succ_eq_append_getElem (by omega), List.map_append, List.sum_append, h4]
    simp only [List.map_cons, List.map_nil, List.sum_cons, List.sum_nil, Int.add_zero]
theorem dem_erase {l : List T3} {k : Nat} (hk : k < l.length) (a b : Int) : dem (l.eraseIdx k) a b + dpart l a b k = dem l a b := by
  have h1 := dem_sum l a b l.length (Nat.le_refl _)
  have h2 := dem_sum (l.eraseIdx k) a b _ (Nat.le_refl _)
  rw [List.take_length] at h1 h2
  unfold dem
  rw [h1, h2, List.eraseIdx_eq_take_drop_succ]
  have h3 : l = l.take k ++ l.getD k t0 :: l.drop (k + 1) := by
    have h4 : l.getD k t0 = l[k] := by simp [hk]
    rw [h4, ← List.drop_eq_getElem_cons hk, List.take_append_drop]
  conv => rhs; rw [h3]
  simp only [List.map_append, List.sum_append, List.map_cons, List.sum_cons, dpart]
  omega
theorem erase_ok {l : List T3} (hl : Ok l) (k : Nat) : Ok (l.eraseIdx k) := by
  refine validE_ok.1 (validE_zero.2 ⟨?_, ?_⟩)
  · have := hl.len
    have := List.length_eraseIdx_le l k
    omega
  · rw [List.all_eq_true]
    intro a ha
    exact List.all_eq_true.1 (validE_zero.1 (validE_ok.2 hl)).2 a (List.mem_of_mem_eraseIdx ha)
theorem dem_less {l : List T3} (hl : Ok l) {k : Nat} (hk : k < l.length) (a b : Int) : dem (l.eraseIdx k) a b ≤ dem l a b := by
  have h1 := dem_erase hk a b
  have h2 := (dpart_range hl.jobs a b hk).1
  omega
theorem late_less {l : List T3} (hl : Ok l) {k : Nat} (hk : k < l.length) (hn : 0 < (l.eraseIdx k).length) : lateL (l.eraseIdx k) ≤ lateL l := by
  rw [lateL_iff (erase_ok hl k) hn]
  intro a b hd
  have h1 := dem_less hl hk a b
  have := (lateL_iff hl (by omega)).1 (Int.le_refl _) a b (by omega)
  omega
end Go.Proofs.Ytiffgaelndajpaa
