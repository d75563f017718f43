/- The set of the areas of closed pulses: mathematics alone. -/
import Derived.Test.YtpjdojjdhbmbjaaFind
import Derived.Test.YtpjdojjdhbmbjaaShelfSort
namespace Go.Proofs.Ytpjdojjdhbmbjaa
open Go.RowKit

theorem strict_ext : ∀ (a b : List Int), a.Pairwise (· < ·) → b.Pairwise (· < ·) → (∀ x, x ∈ a ↔ x ∈ b) → a = b
  | [], [], _, _, _ => rfl
  | [], y :: t, _, _, h => by have := (h y).2 (by simp); cases this
  | x :: s, [], _, _, h => by have := (h x).1 (by simp); cases this
  | x :: s, y :: t, ha, hb, h => by
    rw [List.pairwise_cons] at ha hb
    have h1 : x = y := by
      have hx := (h x).1 (by simp)
      have hy := (h y).2 (by simp)
      rcases List.mem_cons.1 hx with rfl | hx
      · rfl
      · rcases List.mem_cons.1 hy with rfl | hy
        · rfl
        · have e1 := hb.1 x hx
          have e2 := ha.1 y hy
          omega
    subst h1
    congr 1
    refine strict_ext s t ha.2 hb.2 fun z => ⟨fun hz => ?_, fun hz => ?_⟩
    · rcases List.mem_cons.1 ((h z).1 (List.mem_cons_of_mem _ hz)) with rfl | h'
      · have := ha.1 z hz; omega
      · exact h'
    · rcases List.mem_cons.1 ((h z).2 (List.mem_cons_of_mem _ hz)) with rfl | h'
      · have := hb.1 z hz; omega
      · exact h'

/-- A sorted list whose neighbours that are equal are made one: it ascends, with the same members. -/
theorem compact_to (d : Array Int) (hs : ∀ i j, i ≤ j → j < d.size → d[i]! ≤ d[j]!) : ∀ m, m ≤ d.size → (Lib.compactUpTo d m).Pairwise (· < ·) ∧ ∀ x, x ∈ Lib.compactUpTo d m ↔ ∃ j, j < m ∧ d[j]! = x
  | 0, _ => ⟨by simp [Lib.compactUpTo], by simp [Lib.compactUpTo]⟩
  | m + 1, h => by
    obtain ⟨h1, h2⟩ := compact_to d hs m (by omega)
    rw [Lib.compactUpTo_succ]
    by_cases hk : 0 < m ∧ d[m]! = d[m - 1]!
    · rw [Lib.keeps_neg hk.1 hk.2]
      simp only [Bool.false_eq_true, if_false, List.append_nil]
      refine ⟨h1, fun x => ?_⟩
      rw [h2]
      constructor
      · rintro ⟨j, hj, e⟩; exact ⟨j, by omega, e⟩
      · rintro ⟨j, hj, e⟩
        by_cases hjm : j = m
        · subst hjm; exact ⟨j - 1, by omega, by rw [← hk.2]; exact e⟩
        · exact ⟨j, by omega, e⟩
    · have hkeep : Lib.keeps d m = true := by
        rcases Nat.eq_zero_or_pos m with h0 | h0
        · subst h0; exact Lib.keeps_lt_one d 0 (by omega)
        · exact Lib.keeps_pos (fun e => hk ⟨h0, e⟩)
      rw [hkeep]
      simp only [if_true]
      refine ⟨?_, fun x => ?_⟩
      · rw [List.pairwise_append]
        refine ⟨h1, by simp, fun a ha b hb => ?_⟩
        rw [List.mem_singleton.1 hb]
        obtain ⟨j, hj, rfl⟩ := (h2 a).1 ha
        have e1 := hs j (m - 1) (by omega) (by omega)
        have e2 := hs (m - 1) m (by omega) (by omega)
        have e3 : d[m]! ≠ d[m - 1]! := fun e => hk ⟨by omega, e⟩
        omega
      · rw [List.mem_append, h2, List.mem_singleton]
        constructor
        · rintro (⟨j, hj, e⟩ | e)
          · exact ⟨j, by omega, e⟩
          · exact ⟨m, by omega, e.symm⟩
        · rintro ⟨j, hj, e⟩
          by_cases hjm : j = m
          · subst hjm; exact .inr e.symm
          · exact .inl ⟨j, by omega, e⟩
theorem compact_sorted (zs : List Int) : (Lib.compact (zs.mergeSort fun x y => decide (x ≤ y))).Pairwise (· < ·) ∧ ∀ x, x ∈ Lib.compact (zs.mergeSort fun x y => decide (x ≤ y)) ↔ x ∈ zs := by
  have hp : (zs.mergeSort fun x y => decide (x ≤ y)).Perm zs := List.mergeSort_perm _ _
  have hs : (zs.mergeSort fun x y => decide (x ≤ y)).Pairwise (fun a b => a ≤ b) := by
    have := List.pairwise_mergeSort (le := fun x y : Int => decide (x ≤ y)) (by intro a b c; simp; omega) (by intro a b; simp; omega) zs
    simpa using this
  generalize zs.mergeSort (fun x y => decide (x ≤ y)) = ys at hp hs
  have hd : ∀ i j, i ≤ j → j < ys.toArray.size → ys.toArray[i]! ≤ ys.toArray[j]! := by
    intro i j hij hj
    have hj' : j < ys.length := by simpa using hj
    have hi' : i < ys.length := by omega
    rcases Nat.lt_or_eq_of_le hij with h | rfl
    · have := List.pairwise_iff_getElem.1 hs i j hi' hj' h
      simpa [getElem!_pos, hi', hj'] using this
    · exact Int.le_refl _
  obtain ⟨h1, h2⟩ := compact_to ys.toArray hd ys.length (by simp)
  refine ⟨h1, fun x => ?_⟩
  rw [← hp.mem_iff]
  unfold Lib.compact
  rw [h2, List.mem_iff_getElem]
  constructor
  · rintro ⟨j, hj, e⟩; exact ⟨j, hj, by simpa [getElem!_pos, hj] using e⟩
  · rintro ⟨j, hj, e⟩; exact ⟨j, hj, by simpa [getElem!_pos, hj] using e⟩

/-- The areas of the pulses of a list, in ascending order. -/
def arSet (l : List Int) (xs : List (List Int)) : List Int := ((List.range 2001).filter (fun (i : Nat) => xs.any (fun x => arF l x == (i : Int) - 1000))).map (fun (i : Nat) => (i : Int) - 1000)
theorem arSet_strict (l : List Int) (xs : List (List Int)) : (arSet l xs).Pairwise (· < ·) := by
  rw [arSet, List.pairwise_map]
  exact (List.Pairwise.filter _ List.pairwise_lt_range).imp (by intro a b h; omega)
theorem arSet_mem {l : List Int} {xs : List (List Int)} (hb : ∀ x ∈ xs, -1000 ≤ arF l x ∧ arF l x ≤ 1000) (a : Int) : a ∈ arSet l xs ↔ ∃ x ∈ xs, arF l x = a := by
  simp only [arSet, List.mem_map, List.mem_filter, List.mem_range, List.any_eq_true, beq_iff_eq]
  constructor
  · rintro ⟨i, ⟨hi, x, hx, e⟩, rfl⟩
    exact ⟨x, hx, e⟩
  · rintro ⟨x, hx, rfl⟩
    have := hb x hx
    exact ⟨(arF l x + 1000).toNat, ⟨by omega, x, hx, by omega⟩, by omega⟩
theorem compact_arSet {l : List Int} {xs : List (List Int)} (hb : ∀ x ∈ xs, -1000 ≤ arF l x ∧ arF l x ≤ 1000) : Lib.compact ((xs.map (arF l)).mergeSort fun x y => decide (x ≤ y)) = arSet l xs := by
  obtain ⟨h1, h2⟩ := compact_sorted (xs.map (arF l))
  refine strict_ext _ _ h1 (arSet_strict l xs) fun x => ?_
  rw [h2, arSet_mem hb, List.mem_map]

/-! How great an area is. -/
theorem way_unit (m : Int) : ∀ k, wayZ m k = (1, 0) ∨ wayZ m k = (0, 1) ∨ wayZ m k = (-1, 0) ∨ wayZ m k = (0, -1)
  | 0 => .inl rfl
  | k + 1 => by
    rw [wayZ]
    rcases way_unit m k with h | h | h | h
    all_goals
      rw [h]
      unfold turnZ
      split
      · simp
      · split
        · simp
        · split <;> simp
theorem s_small {m : Int} {p : List Int} {k : Nat} (hf : -2 ≤ p.getD k 0 ∧ p.getD k 0 ≤ 2) : (-2 ≤ (sZ m p k).1 ∧ (sZ m p k).1 ≤ 2) ∧ (-2 ≤ (sZ m p k).2 ∧ (sZ m p k).2 ≤ 2) := by
  rw [sZ]
  rcases way_unit m k with h | h | h | h
  all_goals
    rw [h]
    simp only [timesZ, Int.mul_zero, Int.mul_one, Int.mul_neg]
    omega
theorem x_small {m : Int} {p : List Int} (hf : ∀ k, -2 ≤ p.getD k 0 ∧ p.getD k 0 ≤ 2) : ∀ k : Nat, (-(2 * k : Int) ≤ (xZ m p k).1 ∧ (xZ m p k).1 ≤ 2 * k) ∧ (-(2 * k : Int) ≤ (xZ m p k).2 ∧ (xZ m p k).2 ≤ 2 * k)
  | 0 => by simp [xZ]
  | k + 1 => by
    have h1 := x_small (m := m) hf k
    have h2 := s_small (m := m) (hf k)
    rw [xZ]
    simp only [plusZ]
    push_cast
    omega
theorem mul_small {a b c : Int} (ha : -c ≤ a ∧ a ≤ c) (hb : -2 ≤ b ∧ b ≤ 2) : -(2 * c) ≤ a * b ∧ a * b ≤ 2 * c := by
  have h : b = -2 ∨ b = -1 ∨ b = 0 ∨ b = 1 ∨ b = 2 := by omega
  rcases h with rfl | rfl | rfl | rfl | rfl <;> omega
theorem a_small {m : Int} {p : List Int} (hf : ∀ k, -2 ≤ p.getD k 0 ∧ p.getD k 0 ≤ 2) : ∀ k : Nat, k ≤ 6 → -(48 * k : Int) ≤ aZ m p k ∧ aZ m p k ≤ 48 * k
  | 0, _ => by simp [aZ]
  | k + 1, hk => by
    have h1 := a_small (m := m) hf k (by omega)
    have h2 := s_small (m := m) (hf k)
    have h3 := x_small (m := m) hf k
    have h4 := mul_small (c := 12) (show -12 ≤ (xZ m p k).1 ∧ (xZ m p k).1 ≤ 12 by omega) h2.2
    have h5 := mul_small (c := 12) (show -12 ≤ (xZ m p k).2 ∧ (xZ m p k).2 ≤ 12 by omega) h2.1
    rw [aZ, crossZ]
    push_cast
    omega
theorem ar_small {l : List Int} {f n : Nat} (hn : n ≤ 6) (hf : f ≤ 2) {x : List Int} (h : x ∈ pulsesL f n) : -1000 ≤ arF l x ∧ arF l x ≤ 1000 := by
  obtain ⟨i, _, rfl⟩ := pulses_at h
  have hl := pAt_len f n i
  have hb := a_small (m := l.getD 0 0) (p := pAt f n i) (fun k => by have := pAt_force f n i k; omega) (pAt f n i).length (by omega)
  rw [arF, area_z, w_small (by omega) (by omega)]
  omega
theorem ar_closed {l : List Int} {f n : Nat} (hn : n ≤ 6) (hf : f ≤ 2) : ∀ x ∈ closedL l f n, -1000 ≤ arF l x ∧ arF l x ≤ 1000 := fun _ hx => ar_small hn hf (List.mem_filter.1 hx).1
def areasL (l : List Int) (n f : Int) : List Int := if searchE l n f = 0 then arSet l (closedL l f.toNat n.toNat) else []
def AreasOut (l : List Int) (n f : Int) (w : World) (e : Ending) (w' : World) : Prop :=
  ∃ A c, e = .returned (.tuple #[.slice A (areasL l n f).length c, .int .i64 (searchE l n f)]) ∧ Rd w' A (ints (areasL l n f)) ∧ Below w.heap.size w w'
end Go.Proofs.Ytpjdojjdhbmbjaa
