/- Mathematics of other numbers of the qubits. -/
import Derived.Test.YteoajadcdjaalaaShortM
import Derived.Test.YteoajadcdjaalaaCntE
namespace Go.Proofs.Yteoajadcdjaalaa
set_option linter.unusedSimpArgs false
set_option linter.unusedVariables false

/-- The list has each number below n once. -/
def ordB (n : Int) (to : List Int) : Bool := decide ((to.length : Int) = n) && (List.range n.toNat).all fun q => to.contains (q : Int)
def toG (to : List Int) (a : Int) : Int := to.getD a.toNat 0
def renG (to : List Int) (g : G) : G := if g.1 = 2 then (g.1, min (toG to g.2.1) (toG to g.2.2.1), max (toG to g.2.1) (toG to g.2.2.1), g.2.2.2) else (g.1, toG to g.2.1, g.2.2.1, g.2.2.2)

theorem sub_perm : ∀ (a b : List Int), a.Nodup → (∀ x ∈ a, x ∈ b) → ∃ r, b.Perm (a ++ r)
  | [], b, _, _ => ⟨b, List.Perm.refl _⟩
  | x :: a, b, hn, hs => by
    obtain ⟨hx, hn'⟩ := List.nodup_cons.1 hn
    have h1 := List.perm_cons_erase (hs x (by simp))
    obtain ⟨r, hr⟩ := sub_perm a (b.erase x) hn' fun y hy => (List.mem_erase_of_ne (by rintro rfl; exact hx hy)).2 (hs y (by simp [hy]))
    exact ⟨r, h1.trans (hr.cons x)⟩
theorem ord_perm {n : Int} {to : List Int} (h : ordB n to = true) : to.Perm ((List.range n.toNat).map fun q : Nat => (q : Int)) := by
  simp only [ordB, Bool.and_eq_true, decide_eq_true_eq, List.all_eq_true, List.mem_range, List.contains_iff_mem] at h
  obtain ⟨r, hr⟩ := sub_perm ((List.range n.toNat).map fun q : Nat => (q : Int)) to (by
    rw [List.nodup_iff_pairwise_ne, List.pairwise_map]
    exact (List.nodup_range (n := n.toNat)).imp fun h1 h2 => h1 (Int.ofNat.inj h2)) (by
    intro x hx
    obtain ⟨q, hq, rfl⟩ := List.mem_map.1 hx
    exact h.2 q (List.mem_range.1 hq))
  have hl := hr.length_eq
  rw [List.length_append, List.length_map, List.length_range] at hl
  have : r = [] := List.length_eq_zero_iff.1 (by omega)
  rw [this, List.append_nil] at hr
  exact hr
theorem ord_len {n : Int} {to : List Int} (h : ordB n to = true) : (to.length : Int) = n := by
  simp only [ordB, Bool.and_eq_true, decide_eq_true_eq] at h; exact h.1
theorem ord_range {n : Int} {to : List Int} (h : ordB n to = true) {a : Int} (h0 : 0 ≤ a) (h1 : a < n) : 0 ≤ toG to a ∧ toG to a < n := by
  have hl := ord_len h
  have ha : a.toNat < to.length := by omega
  have e : toG to a = to[a.toNat] := by simp [toG, ha]
  have hm := (ord_perm h).mem_iff.1 (List.getElem_mem ha)
  obtain ⟨q, hq, he⟩ := List.mem_map.1 hm
  have := List.mem_range.1 hq
  rw [e, ← he]; omega
theorem ord_inj {n : Int} {to : List Int} (h : ordB n to = true) {a b : Int} (ha : 0 ≤ a) (ha1 : a < n) (hb : 0 ≤ b) (hb1 : b < n) : (toG to a = toG to b ∧ a = b) ∨ (toG to a ≠ toG to b ∧ a ≠ b) := by
  have hl := ord_len h
  have hn : to.Nodup := (ord_perm h).nodup_iff.2 (by
    rw [List.nodup_iff_pairwise_ne, List.pairwise_map]
    exact (List.nodup_range (n := n.toNat)).imp fun h1 h2 => h1 (Int.ofNat.inj h2))
  have h1 : a.toNat < to.length := by omega
  have h2 : b.toNat < to.length := by omega
  have e1 : toG to a = to[a.toNat] := by simp [toG, h1]
  have e2 : toG to b = to[b.toNat] := by simp [toG, h2]
  rw [e1, e2]
  by_cases hab : a = b
  · subst hab; exact .inl ⟨rfl, rfl⟩
  · refine .inr ⟨?_, hab⟩
    intro he
    have := (List.nodup_iff_pairwise_ne.1 hn)
    rw [List.pairwise_iff_getElem] at this
    rcases Nat.lt_trichotomy a.toNat b.toNat with h3 | h3 | h3
    · exact (this _ _ h1 h2 h3 he).elim
    · omega
    · exact (this _ _ h2 h1 h3 he.symm).elim

theorem gate_kinds {n : Int} {g : G} (h : gateB n g = true) : ((g.1 = 0 ∨ g.1 = 1) ∧ 0 ≤ g.2.1 ∧ g.2.1 < n ∧ g.2.2.1 = -1 ∨ g.1 = 2 ∧ 0 ≤ g.2.1 ∧ g.2.1 < g.2.2.1 ∧ g.2.2.1 < n) ∧ 1 ≤ g.2.2.2 ∧ g.2.2.2 < 16 := by
  simp only [gateB, isGateB, Bool.and_eq_true, decide_eq_true_eq] at h
  obtain ⟨h1, h2⟩ := h
  refine ⟨?_, h1.1, h1.2⟩
  split at h2
  · rename_i hk
    simp only [Bool.or_eq_true, Bool.and_eq_true, decide_eq_true_eq, beq_iff_eq] at hk h2
    exact .inl ⟨hk, h2.1.1, h2.1.2, h2.2⟩
  · split at h2
    · rename_i hk
      simp only [Bool.and_eq_true, decide_eq_true_eq, beq_iff_eq] at hk h2
      exact .inr ⟨hk, h2.1.1, h2.1.2, h2.2⟩
    · cases h2
theorem gate_of {n : Int} {g : G} (h : ((g.1 = 0 ∨ g.1 = 1) ∧ 0 ≤ g.2.1 ∧ g.2.1 < n ∧ g.2.2.1 = -1 ∨ g.1 = 2 ∧ 0 ≤ g.2.1 ∧ g.2.1 < g.2.2.1 ∧ g.2.2.1 < n) ∧ 1 ≤ g.2.2.2 ∧ g.2.2.2 < 16) : gateB n g = true := by
  obtain ⟨h1 | h1, h2, h3⟩ := h
  · rcases h1 with ⟨hk | hk, a, b, c⟩ <;> simp [gateB, isGateB, hk, a, b, c, h2, h3]
  · obtain ⟨hk, a, b, c⟩ := h1
    simp [gateB, isGateB, hk, a, b, c, h2, h3]
theorem ren_ang (to : List Int) (g : G) : (renG to g).2.2.2 = g.2.2.2 := by unfold renG; split <;> rfl
theorem ren_gate {n : Int} {to : List Int} (h : ordB n to = true) {g : G} (hg : gateB n g = true) : gateB n (renG to g) = true := by
  obtain ⟨h1, h2, h3⟩ := gate_kinds hg
  apply gate_of
  rw [ren_ang]
  refine ⟨?_, h2, h3⟩
  rcases h1 with ⟨hk, a, b, c⟩ | ⟨hk, a, b, c⟩
  · obtain ⟨r1, r2⟩ := ord_range h a b
    refine .inl ?_
    rw [renG, if_neg (by omega)]
    exact ⟨hk, r1, r2, c⟩
  · obtain ⟨r1, r2⟩ := ord_range h a (by omega)
    obtain ⟨r3, r4⟩ := ord_range h (a := g.2.2.1) (by omega) c
    have hi := ord_inj h a (by omega) (b := g.2.2.1) (by omega) c
    refine .inr ?_
    rw [renG, if_pos hk]
    refine ⟨hk, ?_, ?_, ?_⟩ <;> simp only [] <;> omega

theorem ren_type {n : Int} {to : List Int} (h : ordB n to = true) {x y : G} (hx : gateB n x = true) (hy : gateB n y = true) : typeG (renG to x) (renG to y) = typeG x y ∧ commG (renG to x) (renG to y) = commG x y := by
  obtain ⟨k, a, b, t⟩ := x
  obtain ⟨k', a', b', t'⟩ := y
  obtain ⟨h1, _⟩ := gate_kinds hx
  obtain ⟨h2, _⟩ := gate_kinds hy
  simp only [] at h1 h2
  have rA : 0 ≤ a ∧ a < n := by omega
  have rA' : 0 ≤ a' ∧ a' < n := by omega
  have R := ord_range h rA.1 rA.2
  have R' := ord_range h rA'.1 rA'.2
  have I1 := ord_inj h rA.1 rA.2 rA'.1 rA'.2
  rcases h1 with ⟨hk, _, _, hb⟩ | ⟨hk, _, hab, hb⟩
  · rcases h2 with ⟨hk', _, _, hb'⟩ | ⟨hk', _, hab', hb'⟩
    · subst hb hb'
      have e1 : renG to (k, a, -1, t) = (k, toG to a, -1, t) := by rw [renG, if_neg (by simp only []; omega)]
      have e2 : renG to (k', a', -1, t') = (k', toG to a', -1, t') := by rw [renG, if_neg (by simp only []; omega)]
      rw [e1, e2]
      generalize toG to a = A at *
      generalize toG to a' = A' at *
      constructor
      · rw [Bool.eq_iff_iff]
        simp only [typeG, typeB, Bool.and_eq_true, beq_iff_eq, and_true, true_and]
        omega
      · unfold commG commB
        have hm : meetB A (-1) A' (-1) = meetB a (-1) a' (-1) := by
          rw [Bool.eq_iff_iff]
          simp only [meetB, Bool.or_eq_true, Bool.and_eq_true, beq_iff_eq, bne_iff_ne, ne_eq, not_true_eq_false, and_false, or_false]
          omega
        simp only []
        rw [hm]
    · subst hk'
      have rB' : 0 ≤ b' ∧ b' < n := by omega
      have S' := ord_range h rB'.1 rB'.2
      have I2 := ord_inj h rA.1 rA.2 rB'.1 rB'.2
      have I3 := ord_inj h rA'.1 rA'.2 rB'.1 rB'.2
      subst hb
      have e1 : renG to (k, a, -1, t) = (k, toG to a, -1, t) := by rw [renG, if_neg (by simp only []; omega)]
      have e2 : renG to (2, a', b', t') = (2, min (toG to a') (toG to b'), max (toG to a') (toG to b'), t') := rfl
      rw [e1, e2]
      generalize toG to a = A at *
      generalize toG to a' = A' at *
      generalize toG to b' = B' at *
      constructor
      · rw [Bool.eq_iff_iff]
        simp only [typeG, typeB, Bool.and_eq_true, beq_iff_eq, and_true, true_and]
        omega
      · unfold commG commB
        have hm : meetB A (-1) (min A' B') (max A' B') = meetB a (-1) a' b' := by
          rw [Bool.eq_iff_iff]
          simp only [meetB, Bool.or_eq_true, Bool.and_eq_true, beq_iff_eq, bne_iff_ne, ne_eq, not_true_eq_false, and_false, or_false]
          omega
        simp only []
        rw [hm]
  · subst hk
    have rB : 0 ≤ b ∧ b < n := by omega
    have S := ord_range h rB.1 rB.2
    have I4 := ord_inj h rB.1 rB.2 rA'.1 rA'.2
    have I5 := ord_inj h rA.1 rA.2 rB.1 rB.2
    have e1 : renG to (2, a, b, t) = (2, min (toG to a) (toG to b), max (toG to a) (toG to b), t) := rfl
    rcases h2 with ⟨hk', _, _, hb'⟩ | ⟨hk', _, hab', hb'⟩
    · subst hb'
      have e2 : renG to (k', a', -1, t') = (k', toG to a', -1, t') := by rw [renG, if_neg (by simp only []; omega)]
      rw [e1, e2]
      generalize toG to a = A at *
      generalize toG to b = B at *
      generalize toG to a' = A' at *
      constructor
      · rw [Bool.eq_iff_iff]
        simp only [typeG, typeB, Bool.and_eq_true, beq_iff_eq, and_true, true_and]
        omega
      · unfold commG commB
        have hm : meetB (min A B) (max A B) A' (-1) = meetB a b a' (-1) := by
          rw [Bool.eq_iff_iff]
          simp only [meetB, Bool.or_eq_true, Bool.and_eq_true, beq_iff_eq, bne_iff_ne, ne_eq, not_true_eq_false, and_false, or_false]
          omega
        simp only []
        rw [hm]
    · subst hk'
      have rB' : 0 ≤ b' ∧ b' < n := by omega
      have S' := ord_range h rB'.1 rB'.2
      have I2 := ord_inj h rA.1 rA.2 rB'.1 rB'.2
      have I3 := ord_inj h rA'.1 rA'.2 rB'.1 rB'.2
      have I6 := ord_inj h rB.1 rB.2 rB'.1 rB'.2
      have e2 : renG to (2, a', b', t') = (2, min (toG to a') (toG to b'), max (toG to a') (toG to b'), t') := rfl
      rw [e1, e2]
      generalize toG to a = A at *
      generalize toG to b = B at *
      generalize toG to a' = A' at *
      generalize toG to b' = B' at *
      constructor
      · rw [Bool.eq_iff_iff]
        simp only [typeG, typeB, Bool.and_eq_true, beq_iff_eq, and_true, true_and]
        omega
      · simp [commG, commB]
theorem ren_tied {n : Int} {to : List Int} (h : ordB n to = true) {x y : G} (hx : gateB n x = true) (hy : gateB n y = true) : tiedG (renG to x) (renG to y) = tiedG x y := by
  obtain ⟨h1, h2⟩ := ren_type h hx hy
  rw [tiedG, tiedG, h1, h2]

theorem map_getD (f : G → G) {l : List G} {j : Nat} (h : j < l.length) : (l.map f).getD j g0 = f (l.getD j g0) := by simp [List.getD_eq_getElem?_getD, h]
theorem erase_map (f : G → G) : ∀ (l : List G) (j : Nat), (l.map f).eraseIdx j = (l.eraseIdx j).map f
  | [], _ => rfl
  | _ :: _, 0 => rfl
  | x :: l, j + 1 => by simp [erase_map f l j]
theorem Fc_rel {P Q : Nat → Nat → Bool} {m : Nat} (h : ∀ j i, j < m → i < m → Q j i = P j i) : ∀ n (S : Nat → Bool), Fc Q m n S = Fc P m n S
  | 0, _ => rfl
  | n + 1, S => by
    rw [Fc, Fc]
    refine sumN_congr m fun i hi => ?_
    have e : firstB Q m S i = firstB P m S i := by
      rw [Bool.eq_iff_iff, firstB_iff, firstB_iff]
      constructor
      · rintro ⟨a, b⟩; exact ⟨a, fun j hj sj => by rw [← h j i hj hi]; exact b j hj sj⟩
      · rintro ⟨a, b⟩; exact ⟨a, fun j hj sj => by rw [h j i hj hi]; exact b j hj sj⟩
    rw [e, Fc_rel h n]
theorem ren_cnt {n : Int} {to : List Int} (h : ordB n to = true) {l : List G} (hl : ∀ x ∈ l, gateB n x = true) : cntL (l.map (renG to)) = cntL l := by
  have hg : ∀ j, j < l.length → gateB n (l.getD j g0) = true := fun j hj => by
    have e : l.getD j g0 = l[j] := by simp [hj]
    rw [e]; exact hl _ (List.getElem_mem hj)
  rw [cntL_Fc, cntL_Fc, List.length_map]
  refine Fc_rel (fun j i hj hi => ?_) _ _
  rw [tb, tb, map_getD _ hj, map_getD _ hi, ren_tied h (hg j hj) (hg i hi)]
theorem ren_find {n : Int} {to : List Int} (h : ordB n to = true) {l : List G} {g : G} (hl : ∀ x ∈ l, gateB n x = true) (hg : gateB n g = true) : ∀ j, j ≤ l.length → findW (l.map (renG to)) (renG to g) j = findW l g j
  | 0, _ => rfl
  | j + 1, hj => by
    have e : l.getD j g0 = l[j] := by simp [show j < l.length by omega]
    have hx : gateB n (l.getD j g0) = true := by rw [e]; exact hl _ (List.getElem_mem (by omega))
    obtain ⟨h1, h2⟩ := ren_type h hx hg
    rw [findW, findW, map_getD _ (by omega), h1, h2, ren_find h hl hg j (by omega)]
theorem ren_with {n : Int} {to : List Int} (h : ordB n to = true) {l : List G} {g : G} (hl : ∀ x ∈ l, gateB n x = true) (hg : gateB n g = true) : withL (l.map (renG to)) (renG to g) = (withL l g).map (renG to) := by
  unfold withL
  rw [List.length_map, ren_find h hl hg _ (Nat.le_refl _)]
  cases hf : findW l g l.length with
  | none => simp
  | some j =>
    have hj := findW_lt l g _ _ hf
    have hs : sumW (renG to (l.getD j g0)) (renG to g) = sumW (l.getD j g0) g := by rw [sumW, sumW, ren_ang, ren_ang]
    have ht : setW (renG to (l.getD j g0)) (renG to g) = renG to (setW (l.getD j g0) g) := by
      rw [setW, hs]
      unfold renG setW
      split <;> rfl
    simp only []
    rw [map_getD _ hj, hs]
    split
    · rw [erase_map]
    · rw [ht, List.map_set]
theorem ren_fold {n : Int} {to : List Int} (h : ordB n to = true) : ∀ (l c : List G), (∀ x ∈ l, gateB n x = true) → (∀ x ∈ c, gateB n x = true) → (l.map (renG to)).foldl withL (c.map (renG to)) = (l.foldl withL c).map (renG to)
  | [], _, _, _ => rfl
  | g :: l, c, hl, hc => by
    rw [List.map_cons, List.foldl_cons, List.foldl_cons, ren_with h hc (hl g (by simp))]
    exact ren_fold h l _ (fun x hx => hl x (by simp [hx])) (with_gates hc (hl g (by simp)))
theorem ren_red {n : Int} {to : List Int} (h : ordB n to = true) {l : List G} (hl : ∀ x ∈ l, gateB n x = true) : (reducedL (l.map (renG to))).length = (reducedL l).length := by
  have e := ren_fold h l [] hl (by simp)
  rw [red_len, red_len]
  show ((l.map (renG to)).foldl withL []).length = (l.foldl withL []).length
  rw [show ([] : List G) = [].map (renG to) from rfl, e]; simp
end Go.Proofs.Yteoajadcdjaalaa
