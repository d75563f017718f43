/- The plan that is found does what it says, and there is one as long back. -/
import Derived.Test.YtjgpfnnokdcgoaaPathT
import Derived.Test.YtjgpfnnokdcgoaaPlanZ
namespace Go.Proofs.Ytjgpfnnokdcgoaa
open Go.RowKit Go.Maps

theorem planR_path {l : List (Int × Int)} {Z : Nat} {p q : List Int} {r : List (Int × Int)} (h : PathZ l Z p r q) : planR l Z p 0 r.reverse = (q, r.length, 0) := by
  induction h with
  | nil => rfl
  | cons _ hm ih =>
    rw [List.reverse_cons, planR_append _ _ _ _ _ _ ih, planR, if_pos (mem_mvZ.1 hm), planR]
    rfl
theorem far_facts {Z : Int} {l : List (Int × Int)} {p q : List Int} {a : Nd} (hb : bothE Z l p q = 0) (ha : arrG Z l p q = some a) :
    planG Z l p (planV (some a)) = (q, a.2.length, 0) ∧ a.2.length < 360 ∧ bothE Z l q p = 0 ∧ ∃ b, arrG Z l q p = some b ∧ b.2.length = a.2.length := by
  obtain ⟨hp, hq, hl⟩ := bothE_zero hb
  obtain ⟨ht, hp4, _, _⟩ := placeE_zero hp
  obtain ⟨n, rfl, _, h6⟩ := trap_nat ht
  have hvp := placeE_v hp
  have hvq := placeE_v hq
  have hB : bothE n l q p = 0 := by rw [bothE, if_pos hq, if_pos hp, if_pos hl]
  have e1 : ∀ x y, bothE n l x y = 0 → arrG n l x y = findL (reachL l n x) y := fun x y hx => by rw [arrG, if_pos hx]; simp
  rw [e1 p q hb] at ha
  obtain ⟨h1, h2, h3⟩ := (find_short hvp h6 hp4).1 a ha
  obtain ⟨s, hs, hsl⟩ := path_back hvp h1
  obtain ⟨b, hb1, hb2⟩ := find_of_path hvq h6 (by omega) hs
  obtain ⟨k1, k2, k3⟩ := (find_short hvq h6 (by omega)).1 b hb1
  obtain ⟨t, ht2, htl⟩ := path_back hvq k1
  have := h2 t ht2
  refine ⟨?_, h3, hB, b, by rw [e1 q p hB]; exact hb1, by omega⟩
  rw [planV, planG, if_pos hp, if_pos (by rw [List.length_reverse]; omega), planR_path h1]
end Go.Proofs.Ytjgpfnnokdcgoaa
