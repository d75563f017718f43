/- The document's alike. -/
import Derived.Test.YteoajadcdjaalaaRname2
import Derived.Test.YteoajadcdjaalaaRpair
import Derived.Deep.RegionHeld2
namespace Go.Proofs.Yteoajadcdjaalaa
open Go.RowKit

theorem pairTo_prj (l : List G) (x y : G) : ∀ k, k ≤ l.length → pairTo l x y k = prj x y (l.take k)
  | 0, _ => by simp [pairTo, prj]
  | k + 1, h => by
    have ih := pairTo_prj l x y k (by omega)
    have ht : l.take (k + 1) = l.take k ++ [l.getD k g0] := by rw [List.take_succ_eq_append_getElem (by omega)]; simp [show k < l.length by omega]
    have hi : (typeG (l.getD k g0) x || typeG (l.getD k g0) y) = inPr x y (l.getD k g0) := by
      rw [Bool.eq_iff_iff, inPr_iff, Bool.or_eq_true, typeG_iff, typeG_iff]
    rw [pairTo, ih, ht, hi]
    unfold prj
    rw [List.filter_append, List.filter_cons, List.filter_nil]
    cases inPr x y (l.getD k g0) <;> simp
theorem pairTo_all (l : List G) (x y : G) : pairTo l x y l.length = prj x y l := by rw [pairTo_prj l x y _ (Nat.le_refl _), List.take_length]

def okP (c d : List G) (x y : G) : Bool := !tiedG x y || sameL (pairTo c x y c.length) (pairTo d x y d.length)
theorem prj_swap (x y : G) (l : List G) : prj x y l = prj y x l := by
  unfold prj
  congr 1
  funext g
  rw [inPr, inPr, Bool.or_comm]
theorem prj_none {x y : G} {l : List G} (h : ∀ g ∈ l, inPr x y g = false) : prj x y l = [] := by
  unfold prj
  rw [List.filter_eq_nil_iff]
  intro g hg; rw [h g hg]; simp
theorem prj_key {x x' y y' : G} (h1 : keyG x = keyG x') (h2 : keyG y = keyG y') (l : List G) : prj x y l = prj x' y' l := by
  unfold prj
  congr 1
  funext g
  rw [inPr, inPr, h1, h2]
/-- Alike, by the pairs of gates that are there. -/
theorem alk_pairs {c d : List G} : alkL c d ↔ ∀ i, i < (c ++ d).length → ∀ k, k ≤ i → okP c d ((c ++ d).getD i g0) ((c ++ d).getD k g0) = true := by
  constructor
  · intro h i _ k _
    unfold okP
    cases ht : tiedG ((c ++ d).getD i g0) ((c ++ d).getD k g0) with
    | false => rfl
    | true => rw [pairTo_all, pairTo_all, h _ _ ht]; simp [sameL]
  · intro h
    have both : ∀ x y, x ∈ c ++ d → y ∈ c ++ d → tiedG x y = true → prj x y c = prj x y d := by
      intro x y hx hy ht
      obtain ⟨i, hi, rfl⟩ := List.mem_iff_getElem.1 hx
      obtain ⟨k, hk, rfl⟩ := List.mem_iff_getElem.1 hy
      have ei : (c ++ d).getD i g0 = (c ++ d)[i] := by rw [List.getD_eq_getElem?_getD, List.getElem?_eq_getElem hi]; rfl
      have ek : (c ++ d).getD k g0 = (c ++ d)[k] := by rw [List.getD_eq_getElem?_getD, List.getElem?_eq_getElem hk]; rfl
      rcases Nat.le_total k i with hki | hik
      · have := h i hi k hki
        rw [ei, ek, okP, ht, pairTo_all, pairTo_all] at this
        simpa [sameL] using this
      · have := h k hk i hik
        rw [ei, ek, okP, tiedG_symm, ht, pairTo_all, pairTo_all, prj_swap, prj_swap _ _ d] at this
        simpa [sameL] using this
    intro x y ht
    by_cases hx : ∃ g ∈ c ++ d, keyG g = keyG x
    · obtain ⟨gx, hgx, hkx⟩ := hx
      by_cases hy : ∃ g ∈ c ++ d, keyG g = keyG y
      · obtain ⟨gy, hgy, hky⟩ := hy
        rw [prj_key hkx.symm hky.symm, prj_key hkx.symm hky.symm d]
        exact both gx gy hgx hgy (by rw [tiedG_key hkx, tiedG_key' hky]; exact ht)
      · have e : ∀ l, (∀ g ∈ l, g ∈ c ++ d) → prj x y l = prj gx gx l := fun l hl => by
          unfold prj
          apply List.filter_congr
          intro g hg
          have : keyG g ≠ keyG y := fun e => hy ⟨g, hl g hg, e⟩
          simp [inPr, this, hkx]
        rw [e c (fun g hg => List.mem_append_left _ hg), e d (fun g hg => List.mem_append_right _ hg)]
        exact both gx gx hgx hgx (tiedG_type rfl)
    · by_cases hy : ∃ g ∈ c ++ d, keyG g = keyG y
      · obtain ⟨gy, hgy, hky⟩ := hy
        have e : ∀ l, (∀ g ∈ l, g ∈ c ++ d) → prj x y l = prj gy gy l := fun l hl => by
          unfold prj
          apply List.filter_congr
          intro g hg
          have : keyG g ≠ keyG x := fun e => hx ⟨g, hl g hg, e⟩
          simp [inPr, this, hky]
        rw [e c (fun g hg => List.mem_append_left _ hg), e d (fun g hg => List.mem_append_right _ hg)]
        exact both gy gy hgy hgy (tiedG_type rfl)
      · have e : ∀ l, (∀ g ∈ l, g ∈ c ++ d) → prj x y l = [] := fun l hl => prj_none fun g hg => by
          have h1 : keyG g ≠ keyG x := fun e => hx ⟨g, hl g hg, e⟩
          have h2 : keyG g ≠ keyG y := fun e => hy ⟨g, hl g hg, e⟩
          simp [inPr, h1, h2]
        rw [e c (fun g hg => List.mem_append_left _ hg), e d (fun g hg => List.mem_append_right _ hg)]
theorem alk_same {c d : List G} : sameL (nameL c) (nameL d) = true ↔ alkL c d := by
  rw [alk_iff]; simp [sameL]
end Go.Proofs.Yteoajadcdjaalaa
