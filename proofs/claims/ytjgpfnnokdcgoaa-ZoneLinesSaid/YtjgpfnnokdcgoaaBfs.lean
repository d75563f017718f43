/- The search as lists: what it finds, and that its ways are shortest. -/
import Derived.Test.YtjgpfnnokdcgoaaSr
namespace Go.Proofs.Ytjgpfnnokdcgoaa
open Go.RowKit Go.Maps

/-- The place that a move makes. -/
abbrev nx (p : List Int) (m : Int × Int) : List Int := p.set m.1.toNat m.2
abbrev Mv := List Int → List (Int × Int)
/-- What the arrivals of a search are, one after another. -/
def bfs (mv : Mv) : Nat → List Nd → List (List Int) → List Nd
  | 0, _, _ => []
  | _ + 1, [], _ => []
  | k + 1, a :: Q, S => a :: bfs mv k ((mv a.1).foldl (stepM a) (Q, S)).1 ((mv a.1).foldl (stepM a) (Q, S)).2
theorem bfs_nil (mv : Mv) (k : Nat) (S : List (List Int)) : bfs mv k [] S = [] := by cases k <;> rfl

/-- A way, its last move first. -/
inductive Path (mv : Mv) (s0 : List Int) : List (Int × Int) → List Int → Prop
  | nil : Path mv s0 [] s0
  | cons {r p m} : Path mv s0 r p → m ∈ mv p → Path mv s0 (m :: r) (nx p m)

theorem step_facts (a : Nd) : ∀ (M : List (Int × Int)) (Q : List Nd) (S : List (List Int)), S.Nodup → ∃ N : List Nd, M.foldl (stepM a) (Q, S) = (Q ++ N, S ++ N.map Prod.fst) ∧ (S ++ N.map Prod.fst).Nodup ∧ (∀ x ∈ N, ∃ m ∈ M, x = (nx a.1 m, m :: a.2)) ∧ ∀ m ∈ M, nx a.1 m ∈ S ++ N.map Prod.fst
  | [], Q, S, h => ⟨[], by simp, by simpa using h, by simp, by simp⟩
  | m :: M, Q, S, h => by
    by_cases hm : nx a.1 m ∈ S
    · obtain ⟨N, h1, h2, h3, h4⟩ := step_facts a M Q S h
      refine ⟨N, ?_, h2, fun x hx => ?_, fun m' hm' => ?_⟩
      · rw [List.foldl_cons, stepM, if_pos hm]; exact h1
      · obtain ⟨m', hm', e⟩ := h3 x hx; exact ⟨m', List.mem_cons_of_mem _ hm', e⟩
      · rcases List.mem_cons.1 hm' with rfl | hm'
        · exact List.mem_append_left _ hm
        · exact h4 m' hm'
    · have hn : (S ++ [nx a.1 m]).Nodup := by
        rw [List.nodup_append]
        refine ⟨h, by simp, fun x hx y hy => ?_⟩
        rw [List.mem_singleton.1 hy]
        rintro rfl
        exact hm hx
      obtain ⟨N, h1, h2, h3, h4⟩ := step_facts a M (Q ++ [(nx a.1 m, m :: a.2)]) (S ++ [nx a.1 m]) hn
      have e : S ++ List.map Prod.fst ((nx a.1 m, m :: a.2) :: N) = S ++ [nx a.1 m] ++ N.map Prod.fst := by simp
      refine ⟨(nx a.1 m, m :: a.2) :: N, ?_, by rw [e]; exact h2, fun x hx => ?_, fun m' hm' => ?_⟩
      · rw [List.foldl_cons, stepM, if_neg hm, h1]; simp
      · rcases List.mem_cons.1 hx with rfl | hx
        · exact ⟨m, by simp, rfl⟩
        · obtain ⟨m', hm', e⟩ := h3 x hx; exact ⟨m', List.mem_cons_of_mem _ hm', e⟩
      · rw [e]
        rcases List.mem_cons.1 hm' with rfl | hm'
        · simp
        · exact h4 m' hm'

/-- What holds between two arrivals: P have come, Q are open. -/
structure Inv (mv : Mv) (s0 : List Int) (P Q : List Nd) (S : List (List Int)) : Prop where
  seen : S = (P ++ Q).map Prod.fst
  nod : S.Nodup
  path : ∀ x ∈ P ++ Q, Path mv s0 x.2 x.1
  start : (s0, []) ∈ P ++ Q
  clos : ∀ x ∈ P, ∀ m ∈ mv x.1, ∃ y ∈ P ++ Q, y.1 = nx x.1 m ∧ y.2.length ≤ x.2.length + 1
  sorted : (P ++ Q).Pairwise fun x y : Nd => x.2.length ≤ y.2.length
  near : ∀ (a : Nd) (t : List Nd), Q = a :: t → ∀ x ∈ P ++ Q, x.2.length ≤ a.2.length + 1
  idx : ∀ (i : Nat) (x : Nd), (P ++ Q)[i]? = some x → x.2.length ≤ i
theorem Inv.begin (mv : Mv) (s0 : List Int) : Inv mv s0 [] [(s0, [])] [s0] :=
  ⟨rfl, by simp, fun x hx => by simp at hx; subst hx; exact .nil, by simp, by simp, by simp, fun a t e x hx => by simp at hx; subst hx; simp, fun i x hx => by have := List.mem_of_getElem? hx; simp at this; subst this; simp⟩
theorem Inv.step {mv : Mv} {s0 : List Int} {P Q : List Nd} {a : Nd} {S : List (List Int)} (h : Inv mv s0 P (a :: Q) S) : Inv mv s0 (P ++ [a]) ((mv a.1).foldl (stepM a) (Q, S)).1 ((mv a.1).foldl (stepM a) (Q, S)).2 := by
  obtain ⟨N, h1, h2, h3, h4⟩ := step_facts a (mv a.1) Q S h.nod
  rw [h1]
  have e : P ++ [a] ++ (Q ++ N) = P ++ a :: Q ++ N := by simp
  have hnear := h.near a Q rfl
  refine ⟨?_, h2, fun x hx => ?_, ?_, fun x hx m hm => ?_, ?_, fun b t hb x hx => ?_, fun i x hx => ?_⟩
  · show S ++ _ = _
    rw [e, List.map_append, ← h.seen]
  · rw [e] at hx
    rcases List.mem_append.1 hx with hx | hx
    · exact h.path x hx
    · obtain ⟨m, hm, rfl⟩ := h3 x hx
      exact .cons (h.path a (by simp)) hm
  · rw [e]; exact List.mem_append_left _ h.start
  · rw [e]
    rcases List.mem_append.1 hx with hx | hx
    · obtain ⟨y, hy, hy2⟩ := h.clos x hx m hm
      exact ⟨y, List.mem_append_left _ hy, hy2⟩
    · rw [List.mem_singleton.1 hx] at hm ⊢
      have := h4 m hm
      rcases List.mem_append.1 this with hs | hs
      · rw [h.seen] at hs
        obtain ⟨y, hy, hy2⟩ := List.mem_map.1 hs
        exact ⟨y, List.mem_append_left _ hy, hy2, hnear y hy⟩
      · obtain ⟨y, hy, hy2⟩ := List.mem_map.1 hs
        obtain ⟨m', _, rfl⟩ := h3 y hy
        exact ⟨_, List.mem_append_right _ hy, hy2, by simp⟩
  · rw [e, List.pairwise_append]
    refine ⟨h.sorted, ?_, fun x hx y hy => ?_⟩
    · rw [List.pairwise_iff_forall_sublist]
      intro x y hxy
      obtain ⟨_, _, rfl⟩ := h3 x (hxy.subset (by simp))
      obtain ⟨_, _, rfl⟩ := h3 y (hxy.subset (by simp))
      simp
    · obtain ⟨_, _, rfl⟩ := h3 y hy
      exact hnear x hx
  · rw [e] at hx
    have hba : a.2.length ≤ b.2.length := by
      have hbm : b ∈ Q ++ N := by show b ∈ (Q ++ N, S ++ List.map Prod.fst N).1; rw [hb]; simp
      rcases List.mem_append.1 hbm with hq | hq
      · have := (List.pairwise_append.1 h.sorted).2.1
        exact (List.pairwise_cons.1 this).1 b hq
      · obtain ⟨_, _, rfl⟩ := h3 b hq
        simp
    rcases List.mem_append.1 hx with hx | hx
    · have := hnear x hx; omega
    · obtain ⟨_, _, rfl⟩ := h3 x hx
      simp; omega
  · rw [e] at hx
    rcases Nat.lt_or_ge i (P ++ a :: Q).length with hl | hl
    · rw [List.getElem?_append_left hl] at hx
      exact h.idx i x hx
    · rw [List.getElem?_append_right hl] at hx
      obtain ⟨_, _, rfl⟩ := h3 x (List.mem_of_getElem? hx)
      have ha := h.idx P.length a (by simp)
      rw [List.length_append, List.length_cons] at hl
      simp only [List.length_cons]; omega
/-- At the end: what is reached lies in it, no farther than any way there. -/
theorem Inv.all {mv : Mv} {s0 : List Int} {L : List Nd} {S : List (List Int)} (h : Inv mv s0 L [] S) {r : List (Int × Int)} {p : List Int} (hp : Path mv s0 r p) : ∃ y ∈ L, y.1 = p ∧ y.2.length ≤ r.length := by
  induction hp with
  | nil => exact ⟨_, by simpa using h.start, rfl, by simp⟩
  | cons _ hm ih =>
    obtain ⟨x, hx, rfl, hl⟩ := ih
    obtain ⟨y, hy, hy2, hy3⟩ := h.clos x hx _ hm
    exact ⟨y, by simpa using hy, hy2, by simp only [List.length_cons]; omega⟩

/-- All rows of n numbers below Z. -/
def allP (Z : Nat) : Nat → List (List Int)
  | 0 => [[]]
  | n + 1 => (allP Z n).flatMap fun p => (List.range Z).map fun z : Nat => (z : Int) :: p
theorem allP_len (Z : Nat) : ∀ n, (allP Z n).length = Z ^ n
  | 0 => rfl
  | n + 1 => by
    rw [allP, List.length_flatMap]
    simp only [List.length_map, List.length_range]
    rw [List.map_const', List.sum_replicate_nat, allP_len Z n, Nat.pow_succ]
theorem allP_mem (Z : Nat) : ∀ (n : Nat) (p : List Int), p ∈ allP Z n ↔ p.length = n ∧ ∀ x ∈ p, 0 ≤ x ∧ x < (Z : Int)
  | 0, p => by
    rw [allP, List.mem_singleton]
    constructor
    · rintro rfl; simp
    · rintro ⟨h, _⟩; exact List.eq_nil_of_length_eq_zero h
  | n + 1, p => by
    rw [allP, List.mem_flatMap]
    constructor
    · rintro ⟨q, hq, hp⟩
      obtain ⟨z, hz, rfl⟩ := List.mem_map.1 hp
      obtain ⟨h1, h2⟩ := (allP_mem Z n q).1 hq
      rw [List.mem_range] at hz
      refine ⟨by simp [h1], fun x hx => ?_⟩
      rcases List.mem_cons.1 hx with rfl | hx
      · omega
      · exact h2 x hx
    · rintro ⟨h1, h2⟩
      match p, h1 with
      | x :: q, h1 =>
        have hx := h2 x (by simp)
        refine ⟨q, (allP_mem Z n q).2 ⟨by simpa using h1, fun y hy => h2 y (List.mem_cons_of_mem _ hy)⟩, List.mem_map.2 ⟨x.toNat, by rw [List.mem_range]; omega, ?_⟩⟩
        rw [Int.toNat_of_nonneg hx.1]

/-- Where all places are ones of n numbers below Z there are no more than so many. -/
theorem Inv.few {mv : Mv} {s0 : List Int} {P Q : List Nd} {S : List (List Int)} {Z n : Nat} (h : Inv mv s0 P Q S) (hs : ∀ x ∈ S, x.length = n ∧ ∀ y ∈ x, 0 ≤ y ∧ y < (Z : Int)) (hZ : Z ≤ 6) (hn : n ≤ 4) : S.length ≤ 1296 := by
  have := nodup_sub h.nod fun x hx => (allP_mem Z n x).2 (hs x hx)
  rw [allP_len] at this
  have h2 : Z ^ n ≤ 6 ^ 4 := Nat.le_trans (Nat.pow_le_pow_left hZ n) (Nat.pow_le_pow_right (by omega) hn)
  omega
/-- The places of a way. -/
theorem Path.place {mv : Mv} {s0 : List Int} {r : List (Int × Int)} {p : List Int} (h : Path mv s0 r p) (I : List Int → Prop) (h0 : I s0) (hI : ∀ p m, I p → m ∈ mv p → I (nx p m)) : I p := by
  induction h with
  | nil => exact h0
  | cons _ hm ih => exact hI _ _ ih hm
theorem Inv.places {mv : Mv} {s0 : List Int} {P Q : List Nd} {S : List (List Int)} (h : Inv mv s0 P Q S) (I : List Int → Prop) (h0 : I s0) (hI : ∀ p m, I p → m ∈ mv p → I (nx p m)) : ∀ x ∈ S, I x := fun x hx => by
  rw [h.seen] at hx
  obtain ⟨y, hy, rfl⟩ := List.mem_map.1 hx
  exact (h.path y hy).place I h0 hI
/-- A way is no longer than there are places. -/
theorem Inv.short {mv : Mv} {s0 : List Int} {P Q : List Nd} {S : List (List Int)} (h : Inv mv s0 P Q S) : ∀ x ∈ P ++ Q, x.2.length < S.length := fun x hx => by
  obtain ⟨i, hi⟩ := List.mem_iff_getElem?.1 hx
  have h1 := h.idx i x hi
  have h2 := (List.getElem?_eq_some_iff.1 hi).1
  rw [h.seen, List.length_map]; omega
/-- A search comes to its end. -/
theorem Inv.run {mv : Mv} {s0 : List Int} {N : Nat} (hN : ∀ P Q S, Inv mv s0 P Q S → S.length ≤ N) : ∀ (k : Nat) (P Q : List Nd) (S : List (List Int)), Inv mv s0 P Q S → N < P.length + k → ∃ S', Inv mv s0 (P ++ bfs mv k Q S) [] S'
  | 0, P, Q, S, h, hk => by
    have h1 := hN _ _ _ h
    rw [h.seen, List.length_map, List.length_append] at h1
    omega
  | _ + 1, P, [], S, h, _ => ⟨S, by rw [bfs, List.append_nil]; exact h⟩
  | k + 1, P, a :: Q, S, h, hk => by
    obtain ⟨S', hS⟩ := Inv.run hN k _ _ _ h.step (by rw [List.length_append, List.length_singleton]; omega)
    refine ⟨S', ?_⟩
    rw [bfs]
    rwa [List.append_assoc, List.singleton_append] at hS
/-- The moves of a place. -/
abbrev mvZ (l : List (Int × Int)) (Z : Nat) : Mv := fun q => mvTo l Z q q.length
/-- What is reached from a place. -/
def reachL (l : List (Int × Int)) (Z : Nat) (p : List Int) : List Nd := bfs (mvZ l Z) 1297 [(p, [])] [p]
/-- A place of n ions. -/
def PlaceZ (Z n : Nat) (p : List Int) : Prop := p.length = n ∧ ∀ x ∈ p, 0 ≤ x ∧ x < (Z : Int)
theorem mvZ_place {l : List (Int × Int)} {Z n : Nat} (p : List Int) (m : Int × Int) (h : PlaceZ Z n p) (hm : m ∈ mvZ l Z p) : PlaceZ Z n (nx p m) := by
  obtain ⟨j, _, _, h1, h2, _⟩ := mvTo_mem hm
  refine ⟨by simp [h.1], fun x hx => ?_⟩
  rcases List.mem_or_eq_of_mem_set hx with hx | hx
  · exact h.2 x hx
  · subst hx; exact ⟨h1, h2⟩
theorem Inv.le {l : List (Int × Int)} {Z n : Nat} {s0 : List Int} (h0 : PlaceZ Z n s0) (hZ : Z ≤ 6) (hn : n ≤ 4) (P Q : List Nd) (S : List (List Int)) (h : Inv (mvZ l Z) s0 P Q S) : S.length ≤ 1296 :=
  h.few (h.places (PlaceZ Z n) h0 mvZ_place) hZ hn
theorem reachL_inv {l : List (Int × Int)} {Z n : Nat} {s0 : List Int} (h0 : PlaceZ Z n s0) (hZ : Z ≤ 6) (hn : n ≤ 4) : ∃ S, Inv (mvZ l Z) s0 (reachL l Z s0) [] S := by
  have := Inv.run (Inv.le (l := l) h0 hZ hn) 1297 [] [(s0, [])] [s0] (Inv.begin _ _) (by simp)
  simpa [reachL] using this
/-- What is left of a search. -/
def LeftZ (l : List (Int × Int)) (Z : Nat) (s0 : List Int) (P Q : List Nd) (S : List (List Int)) : Prop :=
  Inv (mvZ l Z) s0 P Q S ∧ reachL l Z s0 = P ++ bfs (mvZ l Z) (1297 - P.length) Q S
theorem LeftZ.begin (l : List (Int × Int)) (Z : Nat) (s0 : List Int) : LeftZ l Z s0 [] [(s0, [])] [s0] := ⟨Inv.begin _ _, rfl⟩
theorem LeftZ.step {l : List (Int × Int)} {Z n : Nat} {s0 : List Int} (h0 : PlaceZ Z n s0) (hZ : Z ≤ 6) (hn : n ≤ 4) {P Q : List Nd} {a : Nd} {S : List (List Int)} (h : LeftZ l Z s0 P (a :: Q) S) : LeftZ l Z s0 (P ++ [a]) ((mvZ l Z a.1).foldl (stepM a) (Q, S)).1 ((mvZ l Z a.1).foldl (stepM a) (Q, S)).2 := by
  have hl := Inv.le h0 hZ hn _ _ _ h.1
  rw [h.1.seen, List.length_map, List.length_append, List.length_cons] at hl
  refine ⟨h.1.step, ?_⟩
  rw [h.2, show 1297 - P.length = (1297 - (P ++ [a]).length) + 1 by simp; omega, bfs, List.append_assoc, List.singleton_append]
theorem LeftZ.done {l : List (Int × Int)} {Z : Nat} {s0 : List Int} {P : List Nd} {S : List (List Int)} (h : LeftZ l Z s0 P [] S) : reachL l Z s0 = P := by rw [h.2, bfs_nil, List.append_nil]
/-- The bounds that hold between two arrivals. -/
theorem LeftZ.bounds {l : List (Int × Int)} {Z n : Nat} {s0 : List Int} (h0 : PlaceZ Z n s0) (hZ : Z ≤ 6) (hn : n ≤ 4) {P Q : List Nd} {S : List (List Int)} (h : LeftZ l Z s0 P Q S) :
    P.length + Q.length = S.length ∧ S.length ≤ 1296 ∧ (∀ x ∈ S, PlaceZ Z n x) ∧ ∀ x ∈ P ++ Q, x.2.length < 1296 ∧ PlaceZ Z n x.1 := by
  have hl := Inv.le h0 hZ hn _ _ _ h.1
  have hp := h.1.places (PlaceZ Z n) h0 mvZ_place
  refine ⟨by rw [h.1.seen, List.length_map, List.length_append], hl, hp, fun x hx => ⟨Nat.lt_of_lt_of_le (h.1.short x hx) hl, hp _ ?_⟩⟩
  rw [h.1.seen]; exact List.mem_map.2 ⟨x, hx, rfl⟩
end Go.Proofs.Ytjgpfnnokdcgoaa
