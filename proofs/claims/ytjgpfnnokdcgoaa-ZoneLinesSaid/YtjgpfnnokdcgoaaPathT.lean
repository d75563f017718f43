/- Ways between places: back, one behind another, the shortest ones. -/
import Derived.Test.YtjgpfnnokdcgoaaBackL
import Derived.Test.YtjgpfnnokdcgoaaFarZ
namespace Go.Proofs.Ytjgpfnnokdcgoaa
open Go.RowKit Go.Maps

theorem mvTo_of {l : List (Int × Int)} {Z : Nat} {p : List Int} : ∀ {i : Nat} {m : Int × Int} {j : Nat}, j < i → m.1 = (j : Int) → 0 ≤ m.2 → m.2 < (Z : Int) → m.2 ∉ p → linkB l (p.getD j 0) m.2 = true → m ∈ mvTo l Z p i
  | 0, _, _, h, _, _, _, _, _ => absurd h (by omega)
  | i + 1, m, j, h, h1, h2, h3, h4, h5 => by
    rw [mvTo, List.mem_append]
    by_cases hj : j < i
    · exact .inl (mvTo_of hj h1 h2 h3 h4 h5)
    · obtain rfl : j = i := by omega
      right
      rw [mvIn, List.mem_map]
      refine ⟨m.2, ?_, by rw [← h1]⟩
      rw [List.mem_filter]
      exact ⟨(upTo_mem _ _ _).2 ⟨h2, h3, h5⟩, by simpa using h4⟩
/-- The moves are those without an error. -/
theorem mem_mvZ {l : List (Int × Int)} {Z : Nat} {p : List Int} {m : Int × Int} : m ∈ mvZ l Z p ↔ moveE l Z p m = 0 := by
  constructor
  · intro h
    obtain ⟨j, h1, h2, h3, h4, h5, h6⟩ := mvTo_mem h
    refine moveE_of (zoneOk_iff.2 ⟨by omega, by omega⟩) (zoneOk_iff.2 ⟨h3, h4⟩) ?_ ?_
    · rw [h2]; simpa using h6
    · simpa using h5
  · intro h
    obtain ⟨z1, z2, z3, z4⟩ := moveE_zero h
    obtain ⟨j, hj, hjl⟩ := zoneOk_nat z1
    obtain ⟨y0, y1⟩ := zoneOk_iff.1 z2
    exact mvTo_of (by omega) hj y0 y1 (by simpa using z4) (by rw [hj] at z3; simpa using z3)

abbrev PathZ (l : List (Int × Int)) (Z : Nat) := Path (mvZ l Z)
theorem Path.trans {mv : Mv} {a b c : List Int} {r s : List (Int × Int)} (h : Path mv a r b) (k : Path mv b s c) : Path mv a (s ++ r) c := by
  induction k with
  | nil => exact h
  | cons _ hm ih => exact .cons ih hm
theorem path_valid {l : List (Int × Int)} {Z : Nat} {a b : List Int} {r : List (Int × Int)} (ha : PlV Z a) (h : PathZ l Z a r b) : PlV Z b := by
  induction h with
  | nil => exact ha
  | cons _ hm ih => exact ih.step (mem_mvZ.1 hm)
theorem path_len {l : List (Int × Int)} {Z : Nat} {a b : List Int} {r : List (Int × Int)} (h : PathZ l Z a r b) : b.length = a.length := by
  induction h with
  | nil => rfl
  | cons _ _ ih => simpa using ih
/-- Each way leads back, too. -/
theorem path_back {l : List (Int × Int)} {Z : Nat} {a b : List Int} {r : List (Int × Int)} (ha : PlV Z a) (h : PathZ l Z a r b) : ∃ s, PathZ l Z b s a ∧ s.length = r.length := by
  induction h with
  | nil => exact ⟨[], .nil, rfl⟩
  | cons hp hm ih =>
    obtain ⟨s, h1, h2⟩ := ih
    obtain ⟨b1, b2⟩ := move_back (path_valid ha hp) (mem_mvZ.1 hm)
    have h3 := Path.cons (mv := mvZ l Z) .nil (mem_mvZ.2 b1)
    rw [b2] at h3
    exact ⟨_, h3.trans h1, by simp [h2]⟩

theorem nodupL_len : ∀ Z ≤ 6, ∀ n ≤ 4, ((allP Z n).filter fun p => onceB p).length ≤ 360 := by
  intro Z hZ n hn
  have h : ∀ Z : Fin 7, ∀ n : Fin 5, ((allP Z n).filter fun p => onceB p).length ≤ 360 := by decide +kernel
  exact h ⟨Z, by omega⟩ ⟨n, by omega⟩
/-- What the list of all that is reached holds. -/
theorem reachL_facts {l : List (Int × Int)} {Z n : Nat} {p : List Int} (hv : PlV Z p) (hn : p.length = n) (hZ : Z ≤ 6) (h4 : n ≤ 4) :
    ((reachL l Z p).map Prod.fst).Nodup ∧ (∀ x ∈ reachL l Z p, PathZ l Z p x.2 x.1) ∧ (∀ r q, PathZ l Z p r q → ∃ y ∈ reachL l Z p, y.1 = q ∧ y.2.length ≤ r.length) ∧ (∀ x ∈ reachL l Z p, x.2.length < (reachL l Z p).length) ∧ (reachL l Z p).length ≤ 360 ∧ (reachL l Z p).Pairwise fun x y : Nd => x.2.length ≤ y.2.length := by
  obtain ⟨S, h⟩ := reachL_inv (l := l) (Z := Z) (n := n) (s0 := p) ⟨hn, hv.inn⟩ hZ h4
  have hs := h.seen
  have hnod := h.nod
  rw [List.append_nil] at hs
  rw [hs] at hnod
  refine ⟨hnod, fun x hx => h.path x (by simpa using hx), fun r q hp => h.all hp, fun x hx => ?_, ?_, by simpa using h.sorted⟩
  · have := h.short x (by simpa using hx)
    rwa [hs, List.length_map] at this
  · have hsub := nodup_sub hnod (m := (allP Z n).filter fun p => onceB p) fun x hx => by
      obtain ⟨y, hy, rfl⟩ := List.mem_map.1 hx
      have hp := h.path y (by simpa using hy)
      have hv2 := path_valid hv hp
      rw [List.mem_filter, allP_mem]
      exact ⟨⟨(path_len hp).trans hn, hv2.inn⟩, by simpa [onceB] using hv2.nod⟩
    have := nodupL_len Z hZ n h4
    rw [List.length_map] at hsub
    omega
theorem findL_some {L : List Nd} {q : List Int} {a : Nd} (h : findL L q = some a) : a ∈ L ∧ a.1 = q := ⟨List.mem_of_find?_eq_some h, by simpa using List.find?_some h⟩
theorem fst_unique {L : List Nd} (h : (L.map Prod.fst).Nodup) {x y : Nd} (hx : x ∈ L) (hy : y ∈ L) (he : x.1 = y.1) : x = y := by
  obtain ⟨i, hi, rfl⟩ := List.mem_iff_getElem.1 hx
  obtain ⟨j, hj, rfl⟩ := List.mem_iff_getElem.1 hy
  rw [List.nodup_iff_pairwise_ne, List.pairwise_iff_getElem] at h
  rcases Nat.lt_trichotomy i j with h1 | h1 | h1
  · exact absurd (by rw [List.getElem_map, List.getElem_map]; exact he) (h i j (by simpa using hi) (by simpa using hj) h1)
  · subst h1; rfl
  · exact absurd (by rw [List.getElem_map, List.getElem_map]; exact he.symm) (h j i (by simpa using hj) (by simpa using hi) h1)
/-- The arrival that is found is a shortest way; none is found where there is no way. -/
theorem find_short {l : List (Int × Int)} {Z : Nat} {p q : List Int} (hv : PlV Z p) (hZ : Z ≤ 6) (h4 : p.length ≤ 4) :
    (∀ a, findL (reachL l Z p) q = some a → PathZ l Z p a.2 q ∧ (∀ r, PathZ l Z p r q → a.2.length ≤ r.length) ∧ a.2.length < 360) ∧ (findL (reachL l Z p) q = none → ∀ r, ¬ PathZ l Z p r q) := by
  obtain ⟨h1, h2, h3, h5, h6, _⟩ := reachL_facts (l := l) hv rfl hZ h4
  constructor
  · intro a ha
    obtain ⟨hm, rfl⟩ := findL_some ha
    refine ⟨h2 a hm, fun r hr => ?_, Nat.lt_of_lt_of_le (h5 a hm) h6⟩
    obtain ⟨y, hy, he, hl⟩ := h3 r _ hr
    rw [fst_unique h1 hy hm he] at hl
    exact hl
  · intro hn r hr
    obtain ⟨y, hy, he, _⟩ := h3 r _ hr
    rw [findL, List.find?_eq_none] at hn
    exact hn y hy (by simpa using he)
theorem find_of_path {l : List (Int × Int)} {Z : Nat} {p q : List Int} {r : List (Int × Int)} (hv : PlV Z p) (hZ : Z ≤ 6) (h4 : p.length ≤ 4) (h : PathZ l Z p r q) : ∃ a, findL (reachL l Z p) q = some a ∧ a.2.length ≤ r.length := by
  cases hf : findL (reachL l Z p) q with
  | none => exact absurd h ((find_short hv hZ h4).2 hf r)
  | some a => exact ⟨a, rfl, ((find_short hv hZ h4).1 a hf).2.1 r h⟩
end Go.Proofs.Ytjgpfnnokdcgoaa
