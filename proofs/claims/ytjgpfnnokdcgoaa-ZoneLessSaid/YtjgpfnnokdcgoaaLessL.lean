/- A trap without a link reaches no more; a store into a row of links. -/
import Derived.Test.YtjgpfnnokdcgoaaReachL
import Derived.Test.YtjgpfnnokdcgoaaWithZ
import Derived.Test.YtjgpfnnokdcgoaaRowM
namespace Go.Proofs.Ytjgpfnnokdcgoaa
open Go.RowKit Go.Maps

theorem trapE_sub {Z : Int} {l l' : List (Int × Int)} (h : trapE Z l = 0) (hs : l'.Sublist l) : trapE Z l' = 0 := by
  obtain ⟨⟨h1, h2⟩, h3, h4⟩ := trapE_zero h
  rw [trapE, if_pos ⟨h1, h2⟩, if_pos (List.all_eq_true.2 fun x hx => linkOk_iff.2 (h3 x (hs.subset hx))), if_pos (by simpa [onceB] using hs.nodup h4)]
theorem path_mono {l l' : List (Int × Int)} {Z : Nat} {p q : List Int} {r : List (Int × Int)} (hs : ∀ x ∈ l', x ∈ l) (h : PathZ l' Z p r q) : PathZ l Z p r q := by
  induction h with
  | nil => exact .nil
  | cons _ hm ih =>
    obtain ⟨h1, h2, h3, h4⟩ := moveE_zero (mem_mvZ.1 hm)
    exact .cons ih (mem_mvZ.2 (moveE_of h1 h2 (by rw [linkB, decide_eq_true_eq] at h3 ⊢; exact hs _ h3) h4))
theorem less_facts {Z : Int} {l : List (Int × Int)} {k : Int} {p : List Int} (hw : withE Z l k = 0) (hp : placeE Z l p = 0) : withZ Z l k = Z ∧ placeE Z (withG Z l k) p = 0 ∧ reachG Z (withG Z l k) p ≤ reachG Z l p := by
  obtain ⟨ht, hp4, _, _⟩ := placeE_zero hp
  obtain ⟨n, rfl, _, h6⟩ := trap_nat ht
  have hv := placeE_v hp
  have hsub : (l.eraseIdx k.toNat).Sublist l := List.eraseIdx_sublist l k.toNat
  rw [withZ, withG, if_pos hw, if_pos hw]
  have hE : placeE n (l.eraseIdx k.toNat) p = 0 := placeE_of (trapE_sub ht hsub) hp4 hv
  refine ⟨rfl, hE, ?_⟩
  rw [reachG, reachG, if_pos hE, if_pos hp]
  rw [show ((n : Nat) : Int).toNat = n by simp]
  exact Int.ofNat_le.2 (reach_sub hv hv h6 hp4 hp4 fun s x h => ⟨s, path_mono (fun x hx => hsub.subset hx) h⟩)
theorem with_len (Z : Int) (l : List (Int × Int)) (k : Int) : (withG Z l k).length ≤ l.length := by
  rw [withG]
  split
  · exact List.length_eraseIdx_le l k.toNat
  · simp
theorem own_capM {w : World} {base e size n c : Nat} {A : Option Addr} {xs : List Value} (h : w.ownsRow base e size (.slice A n c) n xs) : c ≤ maxLen := by
  rcases h.2 with ⟨h0, _⟩ | ⟨g, cap, cur, hv, _, _, _, hm, _⟩
  · injection h0 with _ h1 h2; omega
  · injection hv with _ _ h2; omega
theorem cellsP_set0 : ∀ (M : List (Int × Int)) (k : Nat) (x : Int), cellsP (M.set k (x, (M.getD k (0, 0)).2)) = (cellsP M).set (k * 2) (.int .i64 x)
  | [], k, x => by simp [cellsP]
  | a :: r, 0, x => rfl
  | a :: r, k + 1, x => by
    have ih := cellsP_set0 r k x
    have e : (k + 1) * 2 = k * 2 + 1 + 1 := by omega
    show [Value.int .i64 a.1, .int .i64 a.2] ++ cellsP (r.set k (x, ((a :: r).getD (k + 1) (0, 0)).2)) = ([Value.int .i64 a.1, .int .i64 a.2] ++ cellsP r).set ((k + 1) * 2) _
    rw [show (a :: r).getD (k + 1) (0, 0) = r.getD k (0, 0) by simp, ih, e]
    rfl
theorem own_putL {w : World} {base c k n : Nat} {A : Option Addr} {M : List (Int × Int)} (h : w.ownsRow base 69 2 (.slice A n c) n (cellsP M)) (hn : M.length = n) (hk : k < n) (x : Int) :
    ∃ g, A = some ⟨g, 0, none⟩ ∧ base ≤ g ∧ g < w.heap.size ∧ w.cell? ⟨g, k * 2, none⟩ = some (.int .i64 (M.getD k (0, 0)).1) ∧ w.frozen? ⟨g, k * 2, none⟩ = false ∧
      (w.setCell ⟨g, k * 2, none⟩ (.int .i64 x)).ownsRow base 69 2 (.slice A n c) n (cellsP (M.set k (x, (M.getD k (0, 0)).2))) := by
  have h' := h
  rcases h'.2 with ⟨he, _⟩ | ⟨g, cap, cur, hv, hb, hg, _⟩
  · simp at he; omega
  · simp only [Value.slice.injEq] at hv
    obtain ⟨rfl, _, rfl⟩ := hv
    have hgl : g < w.heap.size := (Array.getElem?_eq_some_iff.1 hg).1
    refine ⟨g, rfl, hb, hgl, ?_, h.frozenAt _, ?_⟩
    · obtain ⟨b, o, he, _, h0, _⟩ := (own_rd h).1.pair (k := k) (by omega)
      injection he with he
      injection he with e1 e2
      subst e1 e2
      rw [Nat.zero_add] at h0
      exact h0
    · rw [cellsP_set0]
      exact (h.stored _ _).1
end Go.Proofs.Ytjgpfnnokdcgoaa
