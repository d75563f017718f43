/- The plan that leads back, as a list. -/
import Derived.Test.YtjgpfnnokdcgoaaCheckP
namespace Go.Proofs.Ytjgpfnnokdcgoaa
open Go.RowKit Go.Maps

/-- The place after so many moves. -/
def nowTo (p : List Int) (M : List (Int × Int)) (k : Nat) : List Int := (M.take k).foldl nx p
theorem take_snoc {M : List (Int × Int)} {k : Nat} (hk : k < M.length) : M.take (k + 1) = M.take k ++ [M.getD k (0, 0)] := by
  rw [List.take_succ_eq_append_getElem hk]; simp [hk]
theorem nowTo_succ {p : List Int} {M : List (Int × Int)} {k : Nat} (hk : k < M.length) : nowTo p M (k + 1) = nx (nowTo p M k) (M.getD k (0, 0)) := by
  rw [nowTo, take_snoc hk, List.foldl_append]; rfl
theorem foldl_nx_len : ∀ (M : List (Int × Int)) (p : List Int), (M.foldl nx p).length = p.length
  | [], _ => rfl
  | m :: r, p => by rw [List.foldl_cons, foldl_nx_len r]; simp
theorem nowTo_len (p : List Int) (M : List (Int × Int)) (k : Nat) : (nowTo p M k).length = p.length := foldl_nx_len _ _
/-- The moves back, the last one first. -/
def bkR : List Int → List (Int × Int) → List (Int × Int)
  | _, [] => []
  | p, m :: r => bkR (nx p m) r ++ [(m.1, p.getD m.1.toNat 0)]
theorem bkR_snoc (m : Int × Int) : ∀ (M : List (Int × Int)) (p : List Int), bkR p (M ++ [m]) = (m.1, (M.foldl nx p).getD m.1.toNat 0) :: bkR p M
  | [], p => rfl
  | x :: r, p => by
    show bkR p (x :: (r ++ [m])) = _
    rw [bkR, bkR_snoc m r]
    rfl
theorem bkR_len : ∀ (M : List (Int × Int)) (p : List Int), (bkR p M).length = M.length
  | [], _ => rfl
  | x :: r, p => by rw [bkR, List.length_append, bkR_len r]; rfl
theorem bkR_succ {p : List Int} {M : List (Int × Int)} {k : Nat} (hk : k < M.length) : bkR p (M.take (k + 1)) = ((M.getD k (0, 0)).1, (nowTo p M k).getD (M.getD k (0, 0)).1.toNat 0) :: bkR p (M.take k) := by
  rw [take_snoc hk, bkR_snoc]; rfl
theorem planR_ok {l : List (Int × Int)} {Z : Int} : ∀ (M : List (Int × Int)) (p : List Int) (k : Nat), (planR l Z p k M).2.2 = 0 → (∀ j, j < M.length → moveE l Z (nowTo p M j) (M.getD j (0, 0)) = 0) ∧ planR l Z p k M = (nowTo p M M.length, k + M.length, 0)
  | [], p, k, _ => ⟨fun j h => by simp at h, rfl⟩
  | m :: r, p, k, h => by
    rw [planR] at h ⊢
    by_cases hm : moveE l Z p m = 0
    · rw [if_pos hm] at h ⊢
      obtain ⟨h1, h2⟩ := planR_ok r _ _ h
      refine ⟨fun j hj => ?_, ?_⟩
      · cases j with
        | zero => exact hm
        | succ j => exact h1 j (by simpa using hj)
      · rw [h2]
        show (nowTo (nx p m) r r.length, k + 1 + r.length, (0 : Int)) = (nowTo p (m :: r) (r.length + 1), k + (r.length + 1), 0)
        rw [show k + 1 + r.length = k + (r.length + 1) by omega]
        rfl
    · rw [if_neg hm] at h
      exact absurd h hm
theorem planR_append {l : List (Int × Int)} {Z : Int} (Y : List (Int × Int)) : ∀ (X : List (Int × Int)) (p q : List Int) (k n : Nat), planR l Z p k X = (q, n, 0) → planR l Z p k (X ++ Y) = planR l Z q n Y
  | [], p, q, k, n, h => by
    rw [planR] at h
    injection h with h1 h2
    injection h2 with h2 _
    subst h1 h2
    rfl
  | m :: r, p, q, k, n, h => by
    show planR l Z p k (m :: (r ++ Y)) = _
    rw [planR] at h ⊢
    by_cases hm : moveE l Z p m = 0
    · rw [if_pos hm] at h ⊢
      exact planR_append Y r _ _ _ _ h
    · rw [if_neg hm] at h
      injection h with _ h2
      injection h2 with _ h2
      exact absurd h2 hm
theorem set_nodup {p : List Int} {i : Nat} {x : Int} (h : p.Nodup) (hx : x ∉ p) : (p.set i x).Nodup := by
  rw [List.nodup_iff_pairwise_ne, List.pairwise_iff_getElem] at h ⊢
  intro a b ha hb hab
  rw [List.length_set] at ha hb
  rw [List.getElem_set, List.getElem_set]
  split
  · rw [if_neg (by omega)]
    intro e
    exact hx (by rw [e]; exact List.getElem_mem hb)
  · split
    · intro e; exact hx (e ▸ List.getElem_mem ha)
    · exact h a b ha hb hab
/-- A valid place. -/
structure PlV (Z : Int) (p : List Int) : Prop where
  inn : ∀ x ∈ p, 0 ≤ x ∧ x < Z
  nod : p.Nodup
theorem PlV.step {l : List (Int × Int)} {Z : Int} {p : List Int} {m : Int × Int} (h : PlV Z p) (hm : moveE l Z p m = 0) : PlV Z (nx p m) := by
  obtain ⟨_, z2, _, z4⟩ := moveE_zero hm
  exact ⟨nx_in h.inn z2, set_nodup h.nod (by simpa using z4)⟩
theorem moveE_of {l : List (Int × Int)} {Z : Int} {p : List Int} {m : Int × Int} (h1 : zoneOk p.length m.1 = true) (h2 : zoneOk Z m.2 = true) (h3 : linkB l (p.getD m.1.toNat 0) m.2 = true) (h4 : p.contains m.2 = false) : moveE l Z p m = 0 := by
  rw [moveE, h1, h2, h3, h4]; rfl
/-- A move back. -/
theorem move_back {l : List (Int × Int)} {Z : Int} {p : List Int} {m : Int × Int} (h : PlV Z p) (hm : moveE l Z p m = 0) : moveE l Z (nx p m) (m.1, p.getD m.1.toNat 0) = 0 ∧ nx (nx p m) (m.1, p.getD m.1.toNat 0) = p := by
  obtain ⟨z1, z2, z3, z4⟩ := moveE_zero hm
  obtain ⟨i, hi, hil⟩ := zoneOk_nat z1
  obtain ⟨mi, mt⟩ := m
  simp only [] at hi z1 z2 z3 z4 ⊢
  subst hi
  simp only [Int.toNat_natCast] at z3 ⊢
  have hil' : i < p.length := by omega
  have hpi := h.inn (p.getD i 0) (by simp [hil'])
  have z4' : mt ∉ p := by simpa using z4
  have hmem : p.getD i 0 ∈ p := by simp [hil']
  constructor
  · refine moveE_of ?_ (zoneOk_iff.2 hpi) ?_ ?_
    · exact zoneOk_iff.2 ⟨by simp, by simpa using hil'⟩
    · rw [linkB_comm]
      simpa [nx, hil'] using z3
    · rw [List.contains_eq_mem, decide_eq_false_iff_not]
      show ¬ p.getD i 0 ∈ p.set i mt
      intro hc
      obtain ⟨j, hj, he⟩ := List.mem_iff_getElem.1 hc
      rw [List.length_set] at hj
      rw [List.getElem_set] at he
      split at he
      · exact z4' (he ▸ hmem)
      · have hn := h.nod
        have e1 : p.getD i 0 = p[i] := by simp [hil']
        rw [e1] at he
        rw [List.nodup_iff_pairwise_ne, List.pairwise_iff_getElem] at hn
        rcases Nat.lt_trichotomy i j with h1 | h1 | h1
        · exact hn _ _ hil' hj h1 he.symm
        · omega
        · exact hn _ _ hj hil' h1 he
  · show (p.set i mt).set i (p.getD i 0) = p
    rw [List.set_set]
    apply List.ext_getElem
    · simp
    · intro a ha hb
      rw [List.getElem_set]
      split
      · rename_i e; subst e; simp [hil']
      · rfl
/-- What a plan does the plan back undoes. -/
theorem planR_back {l : List (Int × Int)} {Z : Int} : ∀ (M : List (Int × Int)) (p : List Int) (k k' : Nat), PlV Z p → (planR l Z p k M).2.2 = 0 → planR l Z (nowTo p M M.length) k' (bkR p M) = (p, k' + M.length, 0)
  | [], p, k, k', _, _ => rfl
  | m :: r, p, k, k', hv, h => by
    rw [planR] at h
    by_cases hm : moveE l Z p m = 0
    · rw [if_pos hm] at h
      have ih := planR_back r (nx p m) (k + 1) k' (hv.step hm) h
      obtain ⟨b1, b2⟩ := move_back hv hm
      show planR l Z (nowTo (nx p m) r r.length) k' (bkR (nx p m) r ++ [(m.1, p.getD m.1.toNat 0)]) = _
      rw [planR_append _ _ _ _ _ _ ih, planR, if_pos b1, b2, planR]
      rw [List.length_cons, Nat.add_assoc]
    · rw [if_neg hm] at h
      exact absurd h hm
theorem nowTo_valid {l : List (Int × Int)} {Z : Int} {p : List Int} {M : List (Int × Int)} (hv : PlV Z p) (h : ∀ j, j < M.length → moveE l Z (nowTo p M j) (M.getD j (0, 0)) = 0) : ∀ k, k ≤ M.length → PlV Z (nowTo p M k)
  | 0, _ => hv
  | k + 1, hk => by
    rw [nowTo_succ (by omega)]
    exact (nowTo_valid hv h k (by omega)).step (h k (by omega))
theorem placeE_of {Z : Int} {l : List (Int × Int)} {p : List Int} (ht : trapE Z l = 0) (h4 : p.length ≤ 4) (hv : PlV Z p) : placeE Z l p = 0 := by
  rw [placeE, if_pos ht, if_pos h4, if_pos (List.all_eq_true.2 fun x hx => zoneOk_iff.2 (hv.inn x hx)), if_pos (by simpa [onceB] using hv.nod)]
theorem placeE_v {Z : Int} {l : List (Int × Int)} {p : List Int} (h : placeE Z l p = 0) : PlV Z p := by
  obtain ⟨_, _, hin, hnd⟩ := placeE_zero h
  exact ⟨hin, hnd⟩
/-- The plan back. -/
def backG (Z : Int) (l : List (Int × Int)) (p : List Int) (M : List (Int × Int)) : List (Int × Int) := if (planG Z l p M).2.2 = 0 then bkR p M else []
theorem planG_ok {Z : Int} {l : List (Int × Int)} {p : List Int} {M : List (Int × Int)} (h : (planG Z l p M).2.2 = 0) : placeE Z l p = 0 ∧ M.length ≤ 400 ∧ (planR l Z p 0 M).2.2 = 0 ∧ planG Z l p M = (nowTo p M M.length, M.length, 0) := by
  rw [planG] at h
  by_cases hp : placeE Z l p = 0
  · rw [if_pos hp] at h
    by_cases hM : M.length ≤ 400
    · rw [if_pos hM] at h
      have h2 := (planR_ok M p 0 h).2
      refine ⟨hp, hM, h, ?_⟩
      rw [planG, if_pos hp, if_pos hM, h2, Nat.zero_add]
    · rw [if_neg hM] at h
      exact absurd h (by decide)
  · rw [if_neg hp] at h
    exact absurd h hp
/-- At the end of a plan the plan back leads to its beginning. -/
theorem planG_back {Z : Int} {l : List (Int × Int)} {p : List Int} {M : List (Int × Int)} (h : (planG Z l p M).2.2 = 0) : planG Z l (planG Z l p M).1 (backG Z l p M) = (p, M.length, 0) := by
  obtain ⟨hp, hM, hR, hG⟩ := planG_ok h
  obtain ⟨ht, h4, _, _⟩ := placeE_zero hp
  have hv := placeE_v hp
  rw [backG, if_pos h, hG]
  show planG Z l (nowTo p M M.length) (bkR p M) = _
  rw [planG, if_pos (placeE_of ht (by rw [nowTo_len]; exact h4) (nowTo_valid hv (planR_ok M p 0 hR).1 _ (Nat.le_refl _))), if_pos (by rw [bkR_len]; exact hM), planR_back M p 0 0 hv hR, Nat.zero_add]
end Go.Proofs.Ytjgpfnnokdcgoaa
