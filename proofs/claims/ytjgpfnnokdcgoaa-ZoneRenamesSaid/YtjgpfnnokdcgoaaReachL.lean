/- How many places are reached: as many from each of them, no more by fewer ways. -/
import Derived.Test.YtjgpfnnokdcgoaaPathT
import Derived.Test.YtjgpfnnokdcgoaaReach
import Derived.Test.YtjgpfnnokdcgoaaSwapZ
namespace Go.Proofs.Ytjgpfnnokdcgoaa
open Go.RowKit Go.Maps

theorem reach_sub {l l' : List (Int × Int)} {Z : Nat} {p q : List Int} (hvp : PlV Z p) (hvq : PlV Z q) (hZ : Z ≤ 6) (h4 : p.length ≤ 4) (h4' : q.length ≤ 4) (H : ∀ s x, PathZ l Z q s x → ∃ s', PathZ l' Z p s' x) : (reachL l Z q).length ≤ (reachL l' Z p).length := by
  obtain ⟨a1, a2, _⟩ := reachL_facts (l := l) hvq rfl hZ h4'
  obtain ⟨b1, b2, b3, _⟩ := reachL_facts (l := l') hvp rfl hZ h4
  have := nodup_sub a1 (m := (reachL l' Z p).map Prod.fst) fun x hx => by
    obtain ⟨y, hy, rfl⟩ := List.mem_map.1 hx
    obtain ⟨s', hs'⟩ := H _ _ (a2 y hy)
    obtain ⟨z, hz, he, _⟩ := b3 _ _ hs'
    exact List.mem_map.2 ⟨z, hz, he⟩
  simpa using this
/-- Each place that is reached reaches as many. -/
theorem reach_same {l : List (Int × Int)} {Z : Nat} {p q : List Int} {r : List (Int × Int)} (hvp : PlV Z p) (hZ : Z ≤ 6) (h4 : p.length ≤ 4) (h : PathZ l Z p r q) : (reachL l Z q).length = (reachL l Z p).length := by
  have hvq := path_valid hvp h
  have hl := path_len h
  obtain ⟨b, hb, _⟩ := path_back hvp h
  exact Nat.le_antisymm (reach_sub hvp hvq hZ h4 (by omega) fun s x hs => ⟨_, h.trans hs⟩) (reach_sub hvq hvp hZ (by omega) h4 fun s x hs => ⟨_, hb.trans hs⟩)
theorem reach_pos {l : List (Int × Int)} {Z : Nat} {p : List Int} (hvp : PlV Z p) (hZ : Z ≤ 6) (h4 : p.length ≤ 4) : lastFar (reachL l Z p) < (reachL l Z p).length := by
  obtain ⟨_, _, h3, h5, _, _⟩ := reachL_facts (l := l) hvp rfl hZ h4
  obtain ⟨y, hy, _⟩ := h3 [] p .nil
  have hne : reachL l Z p ≠ [] := List.ne_nil_of_mem hy
  have hl := h5 _ (List.getLast_mem hne)
  rwa [lastFar, List.getLast?_eq_some_getLast hne]
theorem reach_few {l : List (Int × Int)} {Z : Nat} {p : List Int} (hvp : PlV Z p) (hZ : Z ≤ 6) (h4 : p.length ≤ 4) : (reachL l Z p).length ≤ 360 := (reachL_facts (l := l) hvp rfl hZ h4).2.2.2.2.1
theorem reaches_facts {Z : Int} {l : List (Int × Int)} {p : List Int} (hE : placeE Z l p = 0) : farG Z l p < reachG Z l p ∧ ∀ m ∈ movesG Z l p, planG Z l p [m] = (nx p m, 1, 0) ∧ placeE Z l (nx p m) = 0 ∧ reachG Z l (nx p m) = reachG Z l p := by
  obtain ⟨ht, hp4, _, _⟩ := placeE_zero hE
  obtain ⟨n, rfl, _, h6⟩ := trap_nat ht
  have hv := placeE_v hE
  have e1 : ∀ x, placeE n l x = 0 → reachG n l x = ((reachL l n x).length : Int) := fun x hx => by rw [reachG, if_pos hx]; simp
  have e2 : farG n l p = (lastFar (reachL l n p) : Int) := by rw [farG, if_pos hE]; simp
  refine ⟨by rw [e1 p hE, e2]; exact Int.ofNat_lt.2 (reach_pos hv h6 hp4), fun m hm => ?_⟩
  have hme : moveE l n p m = 0 := by
    rw [movesG, if_pos hE] at hm
    exact mem_mvZ.1 (by simpa using hm)
  have hv2 := hv.step hme
  have hE2 : placeE n l (nx p m) = 0 := placeE_of ht (by simp; omega) hv2
  refine ⟨by rw [planG, if_pos hE, if_pos (by simp), planR, if_pos hme, planR], hE2, ?_⟩
  rw [e1 _ hE2, e1 _ hE, reach_same hv h6 hp4 (Path.cons .nil (mem_mvZ.2 hme))]
theorem swap_comm (p : List Int) (i j : Nat) : swapP p i j = swapP p j i := by
  by_cases h : i = j
  · subst h; rfl
  · rw [swapP, swapP, List.set_comm _ _ h]
theorem swap_self (p : List Int) (i : Nat) (hi : i < p.length) : swapP p i i = p := by
  rw [swapP]
  apply List.ext_getElem
  · simp
  · intro a ha hb
    simp only [List.getElem_set]
    by_cases h : i = a
    · subst h; simp [hi]
    · simp [h]
theorem swapG_comm (Z : Int) (l : List (Int × Int)) (p : List Int) (i j : Int) : swapG Z l p i j = swapG Z l p j i := by
  rw [swapG, swapG, swap_comm p i.toNat j.toNat]
  cases zoneOk p.length i <;> cases zoneOk p.length j <;> rfl
theorem swapE_comm (Z : Int) (l : List (Int × Int)) (p : List Int) (i j : Int) : swapE Z l p i j = swapE Z l p j i := by
  rw [swapE, swapE, Bool.and_comm]
theorem swapG_self {Z : Int} {l : List (Int × Int)} {p : List Int} {i : Int} (h : swapE Z l p i i = 0) : swapG Z l p i i = true := by
  rw [swapE] at h
  by_cases hE : placeE Z l p = 0
  · rw [if_pos hE] at h
    by_cases hi : zoneOk p.length i = true
    · obtain ⟨ht, hp4, _, _⟩ := placeE_zero hE
      obtain ⟨n, rfl, _, h6⟩ := trap_nat ht
      obtain ⟨i0, i1⟩ := zoneOk_iff.1 hi
      obtain ⟨a, ha, _⟩ := find_of_path (l := l) (placeE_v hE) h6 hp4 .nil
      rw [swapG, swap_self p i.toNat (by omega), hi, show ((n : Nat) : Int).toNat = n by simp, ha, hE]; rfl
    · rw [if_neg (by simpa using hi)] at h
      exact absurd h (by decide)
  · rw [if_neg hE] at h; exact absurd h hE
end Go.Proofs.Ytjgpfnnokdcgoaa
