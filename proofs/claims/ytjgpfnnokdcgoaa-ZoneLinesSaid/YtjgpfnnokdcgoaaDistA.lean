/- The specification's table of distances: numbers of places, the table as a list, its counts, and the function that makes it. -/
import Derived.Test.YtjgpfnnokdcgoaaBfs
import Derived.Deep.LoopGhost
import Derived.Test.YtjgpfnnokdcgoaaPathT
import Derived.OneCell
import Derived.Test.YtjgpfnnokdcgoaaRmoves
import Derived.Test.YtjgpfnnokdcgoaaApp
import Derived.Test.YtjgpfnnokdcgoaaLine
import Derived.Laws.OwnMore
import Derived.StillTailTactics
import Derived.Deep.CutRange
/- The number of a place. -/
namespace Go.Proofs.Ytjgpfnnokdcgoaa
open Go.RowKit Go.Maps

/-- The number of a place. -/
def numP (p : List Int) : Int := p.foldl (fun n x => 6 * n + x) 0
theorem numP_snoc (p : List Int) (x : Int) : numP (p ++ [x]) = 6 * numP p + x := by rw [numP, List.foldl_append]; rfl
theorem numP_bound : ∀ (n : Nat) (p : List Int), p.length = n → (∀ x ∈ p, 0 ≤ x ∧ x < 6) → 0 ≤ numP p ∧ numP p < 6 ^ n
  | 0, p, h, _ => by
    rw [List.length_eq_zero_iff.1 h]
    exact ⟨by decide, by decide⟩
  | n + 1, p, h, hp => by
    have hne : p ≠ [] := by rintro rfl; simp at h
    obtain ⟨q, x, rfl⟩ : ∃ q x, p = q ++ [x] := ⟨p.dropLast, p.getLast hne, (List.dropLast_concat_getLast hne).symm⟩
    have hx := hp x (by simp)
    obtain ⟨h1, h2⟩ := numP_bound n q (by simpa using h) fun y hy => hp y (by simp [hy])
    rw [numP_snoc]
    have e : (6 : Int) ^ (n + 1) = 6 ^ n * 6 := by rw [Int.pow_succ]
    omega
theorem numP_inj : ∀ (n : Nat) (p q : List Int), p.length = n → q.length = n → (∀ x ∈ p, 0 ≤ x ∧ x < 6) → (∀ x ∈ q, 0 ≤ x ∧ x < 6) → numP p = numP q → p = q
  | 0, p, q, h, k, _, _, _ => by rw [List.length_eq_zero_iff.1 h, List.length_eq_zero_iff.1 k]
  | n + 1, p, q, h, k, hp, hq, e => by
    have hne : p ≠ [] := by rintro rfl; simp at h
    have hne' : q ≠ [] := by rintro rfl; simp at k
    obtain ⟨p', x, rfl⟩ : ∃ q x, p = q ++ [x] := ⟨p.dropLast, p.getLast hne, (List.dropLast_concat_getLast hne).symm⟩
    obtain ⟨q', y, rfl⟩ : ∃ p x, q = p ++ [x] := ⟨q.dropLast, q.getLast hne', (List.dropLast_concat_getLast hne').symm⟩
    have hx := hp x (by simp)
    have hy := hq y (by simp)
    rw [numP_snoc, numP_snoc] at e
    obtain ⟨b1, b2⟩ := numP_bound n p' (by simpa using h) fun z hz => hp z (by simp [hz])
    obtain ⟨b3, b4⟩ := numP_bound n q' (by simpa using k) fun z hz => hq z (by simp [hz])
    have e1 : x = y := by omega
    have e2 : numP p' = numP q' := by omega
    rw [numP_inj n p' q' (by simpa using h) (by simpa using k) (fun z hz => hp z (by simp [hz])) (fun z hz => hq z (by simp [hz])) e2, e1]

set_option maxRecDepth 100000 in
set_option maxHeartbeats 2000000 in
theorem number_c (A : Option Addr) (p : List Int) (c : Nat) (w : World) (hp4 : p.length ≤ 4) (hin : ∀ x ∈ p, 0 ≤ x ∧ x < 6) (hr : Rd w A (ints p)) :
    Calls Try.prog 75 #[.slice A p.length c] w fun e w' => e = .returned (.int .i64 (numP p)) ∧ w = w' := by
  go_enter Try.func75, Try.ntmps75
  go_wp2_with (fail)
  go_loopg [3, 4] p.length (fun gk nv iv wr => ∃ k : Nat, Hid (k + gk = p.length) ∧ iv = .int .i64 (k : Int) ∧ nv = .int .i64 (numP (p.take k)) ∧ w = wr)
  case atStart => exact ⟨0, by simp [Hid], rfl, rfl, rfl⟩
  case round =>
    obtain ⟨k, HK, rfl, rfl, rfl⟩ := hrel
    rcases gk with _ | gi
    · obtain rfl : k = p.length := HK.out
      rw [List.take_length]
      go_wp2_with (fail)
      go_ret
      exact ⟨rfl, rfl⟩
    · have hkl : k < p.length := by have h := HK.out; omega
      have hkl' : (k : Int) < (p.length : Int) := by omega
      obtain ⟨b, o, rfl, _, hc⟩ := hr.at_ (k := k) (by simpa using hkl)
      have hci := hc k _ (ints_get hkl)
      have HS : Hid (numP (p.take (k + 1)) = 6 * numP (p.take k) + p.getD k 0) := by
        show _ = _
        rw [List.take_succ_eq_append_getElem hkl, numP_snoc]; simp [hkl]
      have hx := hin (p.getD k 0) (by simp [hkl])
      obtain ⟨b1, b2⟩ := numP_bound k (p.take k) (by simp; omega) fun y hy => hin y (List.mem_of_mem_take hy)
      have hpw : (6 : Int) ^ k ≤ 216 := by
        match k, (by omega : k < 4) with
        | 0, _ => decide
        | 1, _ => decide
        | 2, _ => decide
        | 3, _ => decide
      generalize p.getD k 0 = x at *
      generalize numP (p.take k) = m at *
      have hw1 : IntKind.i64.wrap (6 * m) = 6 * m := by simp [IntKind.wrap, IntKind.bits, IntKind.signed]; omega
      have hw2 : IntKind.i64.wrap (6 * m + x) = 6 * m + x := by simp [IntKind.wrap, IntKind.bits, IntKind.signed]; omega
      clear hc hpw
      go_wp2_with (fail)
      go_roundg gi
      case rel => exact ⟨k + 1, by have h := HK.out; show _ = _; omega, by go_num, by rw [HS.out], rfl⟩
      case measure => omega
end Go.Proofs.Ytjgpfnnokdcgoaa

/- The specification's table of distances, as a list; rows of places. -/
namespace Go.Proofs.Ytjgpfnnokdcgoaa
open Go.RowKit Go.Maps

/-- How far the place with a number is. -/
def dOf (L : List Nd) (i : Nat) : Int := match L.find? (fun x => decide (numP x.1 = (i : Int))) with | some x => (x.2.length : Int) | none => 1000000
def distL (L : List Nd) (N : Nat) : List Int := (List.range N).map (dOf L)
@[simp] theorem distL_len (L : List Nd) (N : Nat) : (distL L N).length = N := by simp [distL]
theorem distL_get (L : List Nd) {N i : Nat} (h : i < N) : (distL L N).getD i 0 = dOf L i := by simp [distL, h]
theorem dOf_not {L : List Nd} {i : Nat} (h : ∀ x ∈ L, numP x.1 ≠ (i : Int)) : dOf L i = 1000000 := by
  have : L.find? (fun x => decide (numP x.1 = (i : Int))) = none := by
    rw [List.find?_eq_none]
    intro x hx
    simpa using h x hx
  rw [dOf, this]
theorem dOf_snoc {L : List Nd} {y : Nd} {i : Nat} (h : ∀ x ∈ L, numP x.1 ≠ numP y.1) : dOf (L ++ [y]) i = if numP y.1 = (i : Int) then (y.2.length : Int) else dOf L i := by
  by_cases e : numP y.1 = (i : Int)
  · have hn : L.find? (fun x => decide (numP x.1 = (i : Int))) = none := by
      rw [List.find?_eq_none]
      intro x hx
      have := h x hx
      rw [e] at this
      simpa using this
    rw [dOf, List.find?_append, hn, if_pos e]
    simp [e]
  · have hn : List.find? (fun x : Nd => decide (numP x.1 = (i : Int))) [y] = none := by simp [e]
    rw [dOf, List.find?_append, hn, Option.or_none, if_neg e, dOf]
theorem distL_snoc {L : List Nd} {y : Nd} {N k : Nat} (h : ∀ x ∈ L, numP x.1 ≠ numP y.1) (hk : numP y.1 = (k : Int)) : (distL L N).set k (y.2.length : Int) = distL (L ++ [y]) N := by
  apply List.ext_getElem
  · simp
  · intro a ha hb
    rw [List.getElem_set]
    simp only [distL, List.getElem_map, List.getElem_range]
    rw [dOf_snoc h, hk]
    by_cases e : k = a
    · subst e; simp
    · rw [if_neg e, if_neg (by omega)]
theorem distL_nil (N : Nat) : distL [] N = List.replicate N 1000000 := by
  apply List.ext_getElem
  · simp
  · intro a ha hb; simp [distL, dOf]
/-- What is listed has its distance there, what is not is far. -/
theorem dOf_mem {L : List Nd} {n i : Nat} (hnod : (L.map Prod.fst).Nodup) (hp : ∀ x ∈ L, x.1.length = n ∧ ∀ y ∈ x.1, 0 ≤ y ∧ y < 6) {x : Nd} (hx : x ∈ L) (hi : numP x.1 = (i : Int)) : dOf L i = (x.2.length : Int) := by
  cases hf : L.find? (fun x => decide (numP x.1 = (i : Int))) with
  | none =>
    rw [List.find?_eq_none] at hf
    exact absurd (by simpa using hi) (hf x hx)
  | some y =>
    have hy := List.mem_of_find?_eq_some hf
    have he : numP y.1 = (i : Int) := by simpa using List.find?_some hf
    have e : y.1 = x.1 := numP_inj n _ _ (hp y hy).1 (hp x hx).1 (hp y hy).2 (hp x hx).2 (by rw [he, hi])
    rw [dOf, hf, fst_unique hnod hy hx e]

/-- hs are slices that read as the lists ls, each of them a row of ints from base on. -/
def RowsZ (w : World) (base : Nat) (hs : List Value) (ls : List (List Int)) : Prop :=
  hs.length = ls.length ∧ ∀ k, k < ls.length → ∃ A c, hs[k]? = some (.slice A (ls.getD k []).length c) ∧ w.ownsRow base 3 1 (.slice A (ls.getD k []).length c) (ls.getD k []).length (ints (ls.getD k []))
section
variable {w w' : World} {base : Nat} {hs : List Value} {ls : List (List Int)}
theorem RowsZ.nil (w : World) (base : Nat) : RowsZ w base [] [] := ⟨rfl, fun k h => by simp at h⟩
theorem RowsZ.call (h : RowsZ w base hs ls) (hb : Below w.heap.size w w') : RowsZ w' base hs ls :=
  ⟨h.1, fun k hk => by obtain ⟨A, c, h1, h2⟩ := h.2 k hk; exact ⟨A, c, h1, own_call h2 hb⟩⟩
theorem RowsZ.set (h : RowsZ w base hs ls) {g i : Nat} (hg : g < base) (u : Value) : RowsZ (w.setCell ⟨g, i, none⟩ u) base hs ls :=
  ⟨h.1, fun k hk => by obtain ⟨A, c, h1, h2⟩ := h.2 k hk; exact ⟨A, c, h1, ownsRow_setCell_below h2 (a := ⟨g, i, none⟩) hg u⟩⟩
theorem RowsZ.grown (h : RowsZ w base hs ls) {e b n : Nat} {v : Value} {xs : List Value} (ho : w.ownsRow b e 1 v n xs) (hne : 3 ≠ e) (hg : w.grownBy w' v.ownBlock) : RowsZ w' base hs ls :=
  ⟨h.1, fun k hk => by
    obtain ⟨A, c, h1, h2⟩ := h.2 k hk
    refine ⟨A, c, h1, h2.kept hg ?_⟩
    cases hA : (Value.slice A (ls.getD k []).length c).ownBlock with
    | none => exact .inl rfl
    | some j => exact .inr (fun e => own_apart h2 ho hne j hA e.symm)⟩
theorem RowsZ.snoc (h : RowsZ w base hs ls) {A : Option Addr} {c : Nat} {p : List Int} (ho : w.ownsRow base 3 1 (.slice A p.length c) p.length (ints p)) : RowsZ w base (hs ++ [.slice A p.length c]) (ls ++ [p]) :=
  ⟨by simp [h.1], fun k hk => by
    by_cases hkl : k < ls.length
    · obtain ⟨A', c', h1, h2⟩ := h.2 k hkl
      have e : (ls ++ [p]).getD k [] = ls.getD k [] := by simp [List.getElem?_append_left hkl]
      rw [e]
      exact ⟨A', c', by rw [List.getElem?_append_left (by rw [h.1]; exact hkl)]; exact h1, h2⟩
    · have hk' : k = ls.length := by simp at hk; omega
      subst hk'
      have e : (ls ++ [p]).getD ls.length [] = p := by simp
      rw [e]
      exact ⟨A, c, by rw [← h.1]; simp, ho⟩⟩
end
end Go.Proofs.Ytjgpfnnokdcgoaa

/- What the table of distances says: how many are reached, the farthest one. -/
namespace Go.Proofs.Ytjgpfnnokdcgoaa
open Go.RowKit Go.Maps

/-- How many numbers of a list are not far. -/
def cntN (l : List Int) : Nat := l.countP fun x => decide (x < 1000000)
theorem cntN_snoc (l : List Int) (x : Int) : cntN (l ++ [x]) = if x < 1000000 then cntN l + 1 else cntN l := by
  rw [cntN, List.countP_append]
  by_cases h : x < 1000000
  · simp [cntN, h]
  · simp [cntN, h]
theorem cntN_le (l : List Int) : cntN l ≤ l.length := List.countP_le_length
/-- The greatest number of a list that is not far. -/
def mxN (l : List Int) : Int := l.foldl (fun n x => if x < 1000000 then max n x else n) 0
theorem mxN_snoc (l : List Int) (x : Int) : mxN (l ++ [x]) = if x < 1000000 then max (mxN l) x else mxN l := by
  rw [mxN, List.foldl_append]; rfl
theorem mxN_spec : ∀ (n : Nat) (l : List Int), l.length = n → (∀ x ∈ l, x < 1000000 → x ≤ mxN l) ∧ 0 ≤ mxN l ∧ (mxN l = 0 ∨ ∃ x ∈ l, x < 1000000 ∧ x = mxN l)
  | 0, l, h => by
    rw [List.length_eq_zero_iff.1 h]
    exact ⟨fun x hx => by simp at hx, Int.le_refl _, .inl rfl⟩
  | n + 1, l, h => by
    have hne : l ≠ [] := by rintro rfl; simp at h
    obtain ⟨q, y, rfl⟩ : ∃ q x, l = q ++ [x] := ⟨l.dropLast, l.getLast hne, (List.dropLast_concat_getLast hne).symm⟩
    obtain ⟨h1, h2, h3⟩ := mxN_spec n q (by simpa using h)
    rw [mxN_snoc]
    by_cases hy : y < 1000000
    · rw [if_pos hy]
      refine ⟨fun x hx hx2 => ?_, by omega, ?_⟩
      · rcases List.mem_append.1 hx with hx | hx
        · have := h1 x hx hx2; omega
        · rw [List.mem_singleton.1 hx]; omega
      · by_cases hm : mxN q ≤ y
        · right; exact ⟨y, by simp, hy, by omega⟩
        · rcases h3 with h3 | ⟨x, hx, hx2, hx3⟩
          · left; omega
          · right; exact ⟨x, by simp [hx], hx2, by omega⟩
    · rw [if_neg hy]
      refine ⟨fun x hx hx2 => ?_, h2, ?_⟩
      · rcases List.mem_append.1 hx with hx | hx
        · exact h1 x hx hx2
        · rw [List.mem_singleton.1 hx] at hx2; omega
      · rcases h3 with h3 | ⟨x, hx, hx2, hx3⟩
        · exact .inl h3
        · right; exact ⟨x, by simp [hx], hx2, hx3⟩
/-- A list of places that are right, each once. -/
structure GoodL (L : List Nd) (n N : Nat) : Prop where
  nod : (L.map Prod.fst).Nodup
  pl : ∀ x ∈ L, x.1.length = n ∧ ∀ y ∈ x.1, 0 ≤ y ∧ y < 6
  num : ∀ x ∈ L, numP x.1 < (N : Int)
  short : ∀ x ∈ L, x.2.length < 100000
theorem GoodL.init {L : List Nd} {y : Nd} {n N : Nat} (h : GoodL (L ++ [y]) n N) : GoodL L n N ∧ (∀ x ∈ L, numP x.1 ≠ numP y.1) ∧ ∃ k : Nat, numP y.1 = (k : Int) ∧ k < N := by
  have hn := h.nod
  rw [List.map_append, List.nodup_append] at hn
  refine ⟨⟨hn.1, fun x hx => h.pl x (List.mem_append_left _ hx), fun x hx => h.num x (List.mem_append_left _ hx), fun x hx => h.short x (List.mem_append_left _ hx)⟩, fun x hx he => ?_, ?_⟩
  · have h1 := h.pl x (List.mem_append_left _ hx)
    have h2 := h.pl y (by simp)
    exact hn.2.2 x.1 (List.mem_map.2 ⟨x, hx, rfl⟩) y.1 (by simp) (numP_inj n _ _ h1.1 h2.1 h1.2 h2.2 he)
  · have h2 := h.pl y (by simp)
    have hb := numP_bound n y.1 h2.1 h2.2
    obtain ⟨k, hk⟩ := Int.eq_ofNat_of_zero_le hb.1
    have h3 := h.num y (by simp)
    exact ⟨k, hk, by rw [hk] at h3; exact Int.ofNat_lt.1 h3⟩
theorem GoodL.cnt {n N : Nat} : ∀ (m : Nat) (L : List Nd), L.length = m → GoodL L n N → cntN (distL L N) = L.length
  | 0, L, hL, _ => by
    rw [List.length_eq_zero_iff.1 hL, distL_nil, cntN, List.countP_replicate]; rfl
  | m + 1, L, hL, h => by
    have hne : L ≠ [] := by rintro rfl; simp at hL
    obtain ⟨q, y, rfl⟩ : ∃ q x, L = q ++ [x] := ⟨L.dropLast, L.getLast hne, (List.dropLast_concat_getLast hne).symm⟩
    obtain ⟨h1, h2, k, hk, hkN⟩ := h.init
    have ih := GoodL.cnt m q (by simpa using hL) h1
    have hs := h.short y (by simp)
    rw [← distL_snoc h2 hk]
    have hkl : k < (distL q N).length := by simpa using hkN
    have hold : (distL q N)[k] = 1000000 := by
      have e := distL_get q hkN
      rw [List.getD_eq_getElem?_getD, List.getElem?_eq_getElem hkl, Option.getD_some] at e
      rw [e]
      exact dOf_not (by rw [← hk]; exact h2)
    have hc : cntN ((distL q N).set k (y.2.length : Int)) = cntN (distL q N) + 1 := by
      rw [cntN, List.countP_set hkl, hold]
      have : (y.2.length : Int) < 1000000 := by omega
      simp [this, cntN]
    rw [hc, ih]; simp
theorem GoodL.get {L : List Nd} {n N : Nat} (h : GoodL L n N) {x : Nd} (hx : x ∈ L) : ∃ k : Nat, numP x.1 = (k : Int) ∧ k < N ∧ dOf L k = (x.2.length : Int) := by
  have h2 := h.pl x hx
  have hb := numP_bound n x.1 h2.1 h2.2
  obtain ⟨k, hk⟩ := Int.eq_ofNat_of_zero_le hb.1
  have h3 := h.num x hx
  exact ⟨k, hk, by rw [hk] at h3; exact Int.ofNat_lt.1 h3, dOf_mem h.nod h.pl hx hk⟩
theorem dOf_cases (L : List Nd) (k : Nat) : dOf L k = 1000000 ∨ ∃ x ∈ L, dOf L k = (x.2.length : Int) := by
  cases hf : L.find? (fun x => decide (numP x.1 = (k : Int))) with
  | none => left; rw [dOf, hf]
  | some y => right; exact ⟨y, List.mem_of_find?_eq_some hf, by rw [dOf, hf]⟩
theorem GoodL.mx {L : List Nd} {n N : Nat} (h : GoodL L n N) (hsort : L.Pairwise fun x y : Nd => x.2.length ≤ y.2.length) : mxN (distL L N) = (lastFar L : Int) := by
  obtain ⟨m1, m2, m3⟩ := mxN_spec _ (distL L N) rfl
  by_cases hne : L = []
  · subst hne
    rcases m3 with m3 | ⟨x, hx, hx2, _⟩
    · rw [m3]; rfl
    · rw [distL_nil] at hx
      have := List.eq_of_mem_replicate hx
      omega
  · obtain ⟨q, y, rfl⟩ : ∃ q x, L = q ++ [x] := ⟨L.dropLast, L.getLast hne, (List.dropLast_concat_getLast hne).symm⟩
    rw [lastFar_snoc]
    have hmax : ∀ x ∈ q ++ [y], x.2.length ≤ y.2.length := fun x hx => by
      rcases List.mem_append.1 hx with hx | hx
      · exact (List.pairwise_append.1 hsort).2.2 x hx y (by simp)
      · rw [List.mem_singleton.1 hx]; exact Nat.le_refl _
    obtain ⟨k, hk, hkN, hd⟩ := h.get (x := y) (by simp)
    have hs := h.short y (by simp)
    have hin : (y.2.length : Int) ∈ distL (q ++ [y]) N := by
      rw [← hd]; exact List.mem_map.2 ⟨k, by simpa using hkN, rfl⟩
    have h4 := m1 _ hin (by omega)
    rcases m3 with m3 | ⟨x, hx, hx2, hx3⟩
    · omega
    · obtain ⟨k2, hk2, rfl⟩ := List.mem_map.1 hx
      rcases dOf_cases (q ++ [y]) k2 with e | ⟨z, hz, e⟩
      · omega
      · have := hmax z hz
        omega
theorem reachL_good {l : List (Int × Int)} {Z : Nat} {p : List Int} (hv : PlV Z p) (hZ : Z ≤ 6) (h4 : p.length ≤ 4) : GoodL (reachL l Z p) p.length (6 ^ p.length) := by
  obtain ⟨h1, h2, _, h5, h6, _⟩ := reachL_facts (l := l) hv rfl hZ h4
  have hp : ∀ x ∈ reachL l Z p, x.1.length = p.length ∧ ∀ y ∈ x.1, 0 ≤ y ∧ y < 6 := fun x hx => ⟨path_len (h2 x hx), fun y hy => by have := (path_valid hv (h2 x hx)).inn y hy; omega⟩
  refine ⟨h1, hp, fun x hx => ?_, fun x hx => by have := h5 x hx; omega⟩
  have := (numP_bound p.length x.1 (hp x hx).1 (hp x hx).2).2
  rwa [show ((6 ^ p.length : Nat) : Int) = (6 : Int) ^ p.length by push_cast; rfl]
/-- The number of a place in the table. -/
theorem dOf_find {l : List (Int × Int)} {Z : Nat} {p q : List Int} (hv : PlV Z p) (hvq : PlV Z q) (hZ : Z ≤ 6) (h4 : p.length ≤ 4) (hq : q.length = p.length) {k : Nat} (hk : numP q = (k : Int)) :
    dOf (reachL l Z p) k = match findL (reachL l Z p) q with | some a => (a.2.length : Int) | none => 1000000 := by
  have hg := reachL_good (l := l) hv hZ h4
  have hq6 : ∀ y ∈ q, 0 ≤ y ∧ y < 6 := fun y hy => by have := hvq.inn y hy; omega
  cases hf : findL (reachL l Z p) q with
  | some a =>
    obtain ⟨ha, rfl⟩ := findL_some hf
    exact dOf_mem hg.nod hg.pl ha hk
  | none =>
    refine dOf_not fun x hx he => ?_
    have h1 := hg.pl x hx
    have := numP_inj p.length x.1 q h1.1 hq h1.2 hq6 (by rw [he, hk])
    rw [findL, List.find?_eq_none] at hf
    exact hf x hx (by simpa using this)
end Go.Proofs.Ytjgpfnnokdcgoaa

/- The specification's table of distances. -/
namespace Go.Proofs.Ytjgpfnnokdcgoaa
open Go.RowKit Go.Maps

theorem set_mid (k g : Nat) (x y : Int) : (List.replicate k x ++ List.replicate (g + 1) y).set k x = List.replicate (k + 1) x ++ List.replicate g y := by
  rw [List.set_append_right _ _ (by simp), List.replicate_succ (n := g), List.replicate_succ' (n := k)]
  simp
theorem made_ints (n : Nat) (hn : n ≤ 100000) (w : World) : ∃ w', (Instr.makeSlice 25 (.int .i64 n) (.int .i64 n)).run Try.prog w = .ok (.slice (some ⟨w.heap.size, 0, none⟩) n n) w' ∧
    w'.ownsRow w.heap.size 3 1 (.slice (some ⟨w.heap.size, 0, none⟩) n n) n (ints (List.replicate n 0)) ∧ w.grownBy w' none := by
  obtain ⟨i0, hi, hz0, hz1, hz2⟩ := info_parts int_info
  obtain ⟨w', h1, h2, h3⟩ := run_make_full (P := Try.prog) w w.heap.size 25 3 i0 _ 1 Try.underlying25 hi hz0 hz1 .i64 .i64 n (by rw [hz2]; omega) (by unfold maxLen; omega) (Nat.le_refl _)
  rw [Nat.mul_one, show (Value.int .i64 0).cells = #[.int .i64 0] from rfl, toList_madeCells_one] at h2
  exact ⟨w', h1, by simpa [ints] using h2, h3⟩
theorem RowsZ.mod {S : Nat → Prop} {w w' : World} {base : Nat} {hs : List Value} {ls : List (List Int)} (h : RowsZ w base hs ls) (hm : Mod S w w') (hS : ∀ k, S k → k < base) : RowsZ w' base hs ls :=
  ⟨h.1, fun k hk => by
    obtain ⟨A, c, h1, h2⟩ := h.2 k hk
    refine ⟨A, c, h1, own_mod h2 hm fun b hb hSb => ?_⟩
    have := hS b hSb
    rcases h2.2 with ⟨hv, _⟩ | ⟨g, cap, cur, hv, hg, _⟩
    · rw [hv] at hb; cases hb
    · rw [hv] at hb
      simp [Value.ownBlock] at hb
      omega⟩
theorem Rd.modz {w w' : World} {go : Nat} {A : Option Addr} {cs : List Value} (h : Rd w A cs) (hm : Mod (fun k => k = go) w w') (hA : ∀ a, A = some a → go < a.block) : Rd w' A cs :=
  h.mod hm fun a ha _ _ => by have := hA a ha; omega

theorem own_typed {w w' : World} {base base' e e' size size' n n' : Nat} {v v' : Value} {xs xs' : List Value} (h : w.ownsRow base e size v n xs) (h' : w.ownsRow base' e' size' v' n' xs') (hne : e ≠ e') (hg : w.grownBy w' v'.ownBlock) : w'.ownsRow base e size v n xs := by
  refine h.kept hg ?_
  cases hA : v.ownBlock with
  | none => exact .inl rfl
  | some j => exact .inr (fun e => own_apart h h' hne j hA e.symm)
theorem own_ge {w : World} {base e size n : Nat} {v : Value} {xs : List Value} (h : w.ownsRow base e size v n xs) {k : Nat} (hk : v.ownBlock = some k) : base ≤ k := by
  rcases h.2 with ⟨hv, _⟩ | ⟨g, cap, cur, hv, hg, _⟩
  · rw [hv] at hk; cases hk
  · rw [hv] at hk
    simp [Value.ownBlock] at hk
    omega
theorem dOf_seen {L : List Nd} {i : Nat} (h : ∃ x ∈ L, numP x.1 = (i : Int)) (hl : ∀ x ∈ L, x.2.length < 100000) : dOf L i ≠ 1000000 := by
  cases hf : L.find? (fun x => decide (numP x.1 = (i : Int))) with
  | none =>
    rw [List.find?_eq_none] at hf
    obtain ⟨x, hx, he⟩ := h
    exact absurd (by simpa using he) (hf x hx)
  | some y =>
    rw [dOf, hf]
    have := hl y (List.mem_of_find?_eq_some hf)
    show ((y.2.length : Nat) : Int) ≠ 1000000
    omega

theorem stepM_new {a : Nd} {Q : List Nd} {S0 : List (List Int)} {ii : Nat} {mt : Int} (h : a.1.set ii mt ∉ S0) : stepM a (Q, S0) ((ii : Int), mt) = (Q ++ [(a.1.set ii mt, ((ii : Int), mt) :: a.2)], S0 ++ [a.1.set ii mt]) := by
  simp only [stepM, Int.toNat_natCast]
  rw [if_neg h]
theorem stepM_old {a : Nd} {Q : List Nd} {S0 : List (List Int)} {ii : Nat} {mt : Int} (h : a.1.set ii mt ∈ S0) : stepM a (Q, S0) ((ii : Int), mt) = (Q, S0) := by
  simp only [stepM, Int.toNat_natCast]
  rw [if_pos h]
theorem movesG_len' (Z : Int) (l : List (Int × Int)) (p : List Int) : (movesG Z l p).length ≤ 1000 := by
  rw [movesG]
  split
  · rename_i h
    obtain ⟨ht, hp4, _, _⟩ := placeE_zero h
    obtain ⟨n, rfl, _, h6⟩ := trap_nat ht
    have h2 := mvTo_len l n p p.length
    have h3 : p.length * n ≤ 4 * 6 := Nat.mul_le_mul hp4 h6
    rw [show ((n : Nat) : Int).toNat = n by simp]
    omega
  · simp

set_option maxRecDepth 100000 in
set_option maxHeartbeats 8000000 in
theorem distances_c (Z : Nat) (A B : Option Addr) (l : List (Int × Int)) (p : List Int) (c d : Nat) (w : World) (hE : placeE Z l p = 0) (hlen : l.length ≤ 1000) (_hcap : p.length ≤ d) (hr : Rd w A (cellsP l)) (hs : Rd w B (ints p)) :
    Calls Try.prog 74 #[trapV Z A l.length c, .slice B p.length d] w fun e w' => ∃ A' c', e = .returned (.slice A' (6 ^ p.length) c') ∧ w'.ownsRow w.heap.size 3 1 (.slice A' (6 ^ p.length) c') (6 ^ p.length) (ints (distL (reachL l Z p) (6 ^ p.length))) ∧ Below w.heap.size w w' := by
  obtain ⟨i0, hi, hz0, hz1, hz2⟩ := info_parts int_info
  obtain ⟨i1, hj, hy0, hy1, hy2⟩ := info_parts slice_info
  obtain ⟨ht, hp4, hin, hnd⟩ := placeE_zero hE
  obtain ⟨n6, hn6, hn1, hz6⟩ := trap_nat ht
  have hZ6 : Z ≤ 6 := by omega
  clear hn6 hn1 hz6 n6
  have hv := placeE_v hE
  have hin6 : ∀ x ∈ p, 0 ≤ x ∧ x < 6 := fun x hx => by have := hin x hx; omega
  have x0 := Bx.new w 24 #[.int .i64 Z, .slice A l.length c]
  have hb0 := bl_alloc (Below.refl w.heap.size w) (.cells #[.int .i64 Z, .slice A l.length c] 24)
  generalize hw0 : w.alloc (.cells #[.int .i64 Z, .slice A l.length c] 24) = w0 at *
  have HNU := fun w1 h => Lib.hid (number_c B p d w1 hp4 hin6 h)
  obtain ⟨N, hNN⟩ : ∃ N, N = 6 ^ p.length := ⟨_, rfl⟩
  rw [← hNN]
  have HNN := Lib.hid hNN
  clear hNN
  go_enter Try.func74, Try.ntmps74
  go_wp2_with (fail)
  go_loopg [5, 6] p.length (fun gk sv iv wr => ∃ k : Nat, Hid (k + gk = p.length) ∧ iv = .int .i64 (k : Int) ∧ sv = .int .i64 ((6 ^ k : Nat) : Int) ∧ w0 = wr)
  case atStart => exact ⟨0, by simp [Hid], rfl, rfl, rfl⟩
  case round =>
    obtain ⟨k, HK, rfl, rfl, rfl⟩ := hrel
    rcases gk with _ | gi
    · obtain rfl : k = p.length := HK.out
      have hN : 1 ≤ 6 ^ p.length ∧ 6 ^ p.length ≤ 1296 := by
        match p.length, hp4 with
        | 0, _ => decide
        | 1, _ => decide
        | 2, _ => decide
        | 3, _ => decide
        | 4, _ => decide
      have hnb := numP_bound p.length p rfl hin6
      have hcast : ((6 ^ p.length : Nat) : Int) = (6 : Int) ^ p.length := by push_cast; rfl
      rw [← hcast] at hnb
      have HBND := fun (x : List Int) (hx : x.length = p.length) (h : ∀ y ∈ x, 0 ≤ y ∧ y < 6) => hcast ▸ numP_bound p.length x hx h
      clear hcast
      rw [← HNN.out] at hN hnb HBND ⊢
      obtain ⟨w1, hmk, hob, hg1⟩ := made_ints N (by omega) w0
      have hb1 : Below w0.heap.size w0 w1 := (Below.refl _ _).grown hg1 (Nat.le_refl _) (fun k hk => by cases hk)
      go_wp2_with (fail)
      clear hmk hg1
      go_loopg [8] N (fun gk iv wr => ∃ k : Nat, Hid (k + gk = N) ∧ iv = .int .i64 (k : Int) ∧ wr.ownsRow w0.heap.size 3 1 (.slice (some ⟨w0.heap.size, 0, none⟩) N N) N (ints (List.replicate k 1000000 ++ List.replicate gk 0)) ∧ Below w0.heap.size w0 wr)
      case atStart => exact ⟨0, by simp [Hid], rfl, by simpa using hob, hb1⟩
      case round =>
        obtain ⟨k, HK, rfl, hown, hb⟩ := hrel
        rcases gk with _ | gi
        · obtain rfl : k = N := HK.out
          rw [List.replicate_zero, List.append_nil, ← distL_nil] at hown
          have hown' : wr.ownsRow w0.heap.size 3 1 (.slice (some ⟨w0.heap.size, 0, none⟩) (distL [] k).length k) (distL [] k).length (ints (distL [] k)) := by rw [distL_len]; exact hown
          obtain ⟨ni, hni⟩ := Int.eq_ofNat_of_zero_le hnb.1
          obtain ⟨g, he, hg, n0, f0, hown2⟩ := own_putI hown' (i := ni) (by rw [distL_len]; omega) 0
          cases he
          simp only [List.length_set, distL_len] at hown2
          have hds := distL_snoc (L := []) (y := (p, [])) (N := k) (by simp) hni
          rw [show ((p, ([] : List (Int × Int))).2.length : Int) = 0 from rfl, List.nil_append] at hds
          rw [hds] at hown2
          have hbs : Below w0.heap.size w0 (wr.setCell ⟨w0.heap.size, ni, none⟩ (.int .i64 0)) := hb.setCell (p := ⟨w0.heap.size, ni, none⟩) hg _
          have hmade : ((wr.setCell ⟨w0.heap.size, ni, none⟩ (.int .i64 0)).alloc (.cells #[] 3)).ownsRow wr.heap.size 3 1 (.slice (some ⟨wr.heap.size, 0, none⟩) 0 0) 0 [] := by
            have h := World.ownsRow_made (e := 3) (size := 1) (base := wr.heap.size) (wr.setCell ⟨w0.heap.size, ni, none⟩ (.int .i64 0)) #[] 0 (by rw [World.size_setCell]; exact Nat.le_refl _) (by decide) rfl
            rwa [World.size_setCell] at h
          have hbm : Below w0.heap.size w0 ((wr.setCell ⟨w0.heap.size, ni, none⟩ (.int .i64 0)).alloc (.cells #[] 3)) := bl_alloc hbs _
          have hgo : w0.heap.size < wr.heap.size := (own_rd hown).1.blk _ rfl (by intro h; have := congrArg List.length h; rw [ints_length, distL_len] at this; simp only [List.length_nil] at this; omega)
          have hni' : (ni : Int) < (k : Int) := by omega
          have HNU2 := HNU wr (hs.later (bl_call hb0 hb))
          rw [hni] at HNU2
          clear hown hown' hni hnb HNU hds
          go_wp2_with (fail)
          refine HNU2.out.mono ?_
          rintro e w2 ⟨rfl, rfl⟩
          go_wp2_with (at_builtin; refine wpList_append_any rfl _ _ 25 rfl wr.heap.size 3 i0 _ 8 Try.underlying25 hi hz0 hz1 hz2 rfl _ 0 [] rfl hmade B p d rfl (hs.later (bl_call hb0 hbm)) (by unfold maxLen; omega) (by omega) (by simp) ?_)
          intro A1 c1' w4 ho1 hg1
          have hoz : w4.ownsRow w0.heap.size 3 1 (.slice (some ⟨w0.heap.size, 0, none⟩) k k) k (ints (distL [(p, [])] k)) := (own_call hown2 (bl_alloc (Below.refl _ _) _)).kept hg1 (.inr (by simp [Value.ownBlock]; omega))
          have hb4 : Below w0.heap.size w0 w4 := hbm.grown hg1 hbm.size (fun j hj => by simp [Value.ownBlock] at hj; omega)
          have hs4 : wr.heap.size < w4.heap.size := by have := hg1.size; rw [World.size_alloc, World.size_setCell] at this; omega
          have xh := Bx.new w4 25 #[.slice A1 p.length c1']
          have hbh : Below w4.heap.size w4 (w4.alloc (.cells #[.slice A1 p.length c1'] 25)) := bl_alloc (Below.refl _ _) _
          have hrz : RowsZ (w4.alloc (.cells #[.slice A1 p.length c1'] 25)) (w0.heap.size + 1) [.slice A1 p.length c1'] [p] := by
            have h := (RowsZ.nil (w4.alloc (.cells #[.slice A1 p.length c1'] 25)) (w0.heap.size + 1)).snoc (own_base (own_call ho1 hbh) (by omega : w0.heap.size + 1 ≤ wr.heap.size))
            exact h
          have hrh : Rd (w4.alloc (.cells #[.slice A1 p.length c1'] 25)) (some ⟨w4.heap.size, 0, none⟩) [.slice A1 p.length c1'] := Bx.rd (cs := [.slice A1 p.length c1']) xh
          have hoh := own_call hoz hbh
          have hb5 := bl_call hb4 hbh
          have hL0 := LeftZ.begin l Z p
          have hN0 : 1 ≤ (reachL l Z p).length := by rw [reachL, bfs, List.length_cons]; omega
          clear hg1 hmade hown2 n0 f0 xh hoz ho1 HNU2
          go_wp2_with (fail)
          go_loopg [9, 10] (reachL l Z p).length (fun gk lv rv wo => ∃ (P Lq : List Nd) (S : List (List Int)) (hsL : List Value) (AL : Option Addr) (cL rd : Nat), Hid (P.length + gk = (reachL l Z p).length) ∧ .slice AL Lq.length cL = lv ∧ .int .i64 (rd : Int) = rv ∧ LeftZ l Z p P Lq S ∧ Hid (∀ x ∈ Lq, x.2.length + 1 = rd) ∧ Hid (rd ≤ 2000) ∧ Rd wo AL hsL ∧ (∀ a, AL = some a → w0.heap.size < a.block) ∧ RowsZ wo (w0.heap.size + 1) hsL (Lq.map Prod.fst) ∧ wo.ownsRow w0.heap.size 3 1 (.slice (some ⟨w0.heap.size, 0, none⟩) k k) k (ints (distL (P ++ Lq) k)) ∧ Below w0.heap.size w0 wo)
          case atStart => exact ⟨[], [(p, [])], [p], _, _, 1, 1, by simp [Hid], rfl, rfl, hL0, fun x hx => by rw [List.mem_singleton.1 hx]; rfl, by show _ ≤ _; omega, hrh, fun a ha => by injection ha with ha; rw [← ha]; show w0.heap.size < w4.heap.size; omega, hrz, hoh, hb5⟩
          case round =>
            obtain ⟨P, Lq, S, hsL, AL, cL, rd, HG, rfl, rfl, hL, HRD, HR2, hrd, hAL, hrows, hout, hbo⟩ := hrel
            obtain ⟨wo, rfl⟩ : ∃ x, x = wr := ⟨_, rfl⟩
            obtain ⟨gko, rfl⟩ : ∃ x, x = gk := ⟨_, rfl⟩
            obtain ⟨b1, b2, b3, b4⟩ := hL.bounds (n := p.length) ⟨rfl, hin⟩ hZ6 hp4
            by_cases hLq : Lq = []
            · subst hLq
              have hd := hL.done
              rw [List.append_nil, ← hd] at hout
              go_wp2_with (fail)
              go_ret
              exact ⟨_, _, rfl, own_base hout hb0.size, bl_call hb0 hbo⟩
            · have hLl : 0 < Lq.length := List.length_pos_iff.2 hLq
              have hLl' : (0 : Int) < (Lq.length : Int) := by omega
              have hrd1 : rd ≤ 1296 := by
                obtain ⟨x, hx⟩ := List.exists_mem_of_ne_nil _ hLq
                have h1 := HRD.out x hx
                have h2 := (b4 x (List.mem_append_right _ hx)).1
                omega
              have hrw : IntKind.i64.wrap ((rd : Int) + 1) = (rd : Int) + 1 := by simp [IntKind.wrap, IntKind.bits, IntKind.signed]; omega
              have hgoo : w0.heap.size < wo.heap.size := (own_rd hout).1.blk _ rfl (by intro h; have := congrArg List.length h; rw [ints_length, distL_len] at this; simp only [List.length_nil] at this; omega)
              have hL0' : LeftZ l Z p (P ++ Lq.take 0) (Lq.drop 0 ++ []) S := by simpa using hL
              go_wp2_with (fail)
              go_loopg [11, 12] Lq.length (fun gk nv kv wm => ∃ (j : Nat) (Nx : List Nd) (S' : List (List Int)) (hsN : List Value) (nv' : Value), nv' = nv ∧ Hid (j + gk = Lq.length) ∧ .int .i64 (j : Int) = kv ∧ LeftZ l Z p (P ++ Lq.take j) (Lq.drop j ++ Nx) S' ∧ Hid (∀ x ∈ Nx, x.2.length = rd) ∧ wm.ownsRow wo.heap.size 25 1 nv' Nx.length hsN ∧ RowsZ wm (w0.heap.size + 1) hsN (Nx.map Prod.fst) ∧ wm.ownsRow w0.heap.size 3 1 (.slice (some ⟨w0.heap.size, 0, none⟩) k k) k (ints (distL (P ++ Lq ++ Nx) k)) ∧ Mod (fun b => b = w0.heap.size) wo wm)
              case atStart => exact ⟨0, [], S, [], _, rfl, by simp [Hid], rfl, hL0', by intro x hx; simp at hx, World.ownsRow_nil _ _ _ _, RowsZ.nil _ _, by simpa using hout, Mod.refl _ _⟩
              case round =>
                obtain ⟨j, Nx, S', hsN, nv, rfl, HJ, rfl, hLj, HNR, hnx, hrz2, hout2, hmod⟩ := hrel
                obtain ⟨wm, rfl⟩ : ∃ x, x = wr := ⟨_, rfl⟩
                rcases gk with _ | gj
                · obtain rfl : j = Lq.length := HJ.out
                  rw [List.take_length, List.drop_length, List.nil_append] at hLj
                  obtain ⟨An, cn, rfl⟩ := own_form hnx
                  have hPN : (P ++ Lq).length ≤ (reachL l Z p).length := by rw [hLj.2]; simp only [List.length_append]; omega
                  have hGo := HG.out
                  rw [List.length_append] at hPN
                  have hrdn := (own_rd hnx).1
                  have hAn := (own_rd hnx).2
                  have hbm := hmod.below (B := w0.heap.size) hbo.size (fun b hb h => by have h2 : b = w0.heap.size := h; omega)
                  have HREL := Lib.hid (And.intro hLj (And.intro hrdn (And.intro hrz2 (And.intro hout2 (hbo.trans hbm)))))
                  clear hLj hrdn hrz2 hout2 hnx
                  go_wp2_with (fail)
                  go_roundg (gko - Lq.length)
                  case rel => exact ⟨P ++ Lq, Nx, S', hsN, An, cn, rd + 1, by show _ = _; rw [List.length_append]; omega, rfl, by go_num, HREL.out.1, fun x hx => by rw [HNR.out x hx], by show _ ≤ _; omega, HREL.out.2.1, fun a ha => by have := hAn a ha; omega, HREL.out.2.2.1, HREL.out.2.2.2.1, HREL.out.2.2.2.2⟩
                  case measure => omega
                · have hjl : j < Lq.length := by have h := HJ.out; omega
                  have hjl' : (j : Int) < (Lq.length : Int) := by omega
                  have hdr := List.drop_eq_getElem_cons hjl
                  have htk := List.take_succ_eq_append_getElem hjl
                  have hbm := hmod.below (B := w0.heap.size) hbo.size (fun b hb h => by have h2 : b = w0.heap.size := h; omega)
                  have hb0m := bl_call hb0 (hbo.trans hbm)
                  obtain ⟨d1, d2, d3, d4⟩ := hLj.bounds (n := p.length) ⟨rfl, hin⟩ hZ6 hp4
                  have hjm : Lq[j] ∈ (P ++ Lq.take j) ++ (Lq.drop j ++ Nx) := List.mem_append_right _ (List.mem_append_left _ (by rw [hdr]; exact List.mem_cons_self ..))
                  have ha4 := d4 Lq[j] hjm
                  have haP := hLj.1.path Lq[j] hjm
                  clear hjm
                  have hav := path_valid hv haP
                  have hal := path_len haP
                  have haR := HRD.out Lq[j] (List.getElem_mem hjl)
                  have hrdm := hrd.modz hmod hAL
                  have hrowm := hrows.mod hmod (fun b hb => by have h2 : b = w0.heap.size := hb; omega)
                  obtain ⟨Aj, cj, hj1, hj2⟩ := hrowm.2 j (by simpa using hjl)
                  have hgj : (Lq.map Prod.fst).getD j [] = Lq[j].1 := by simp [hjl]
                  rw [hgj] at hj1 hj2
                  obtain ⟨bL, oL, rfl, hbL, hcL⟩ := hrdm.at_ (k := j) (by rw [hrowm.1]; simpa using hjl)
                  have hcj := hcL j _ hj1
                  have HQE : Hid (∀ X : List Nd, (P ++ Lq.take j) ++ (Lq.drop j ++ X) = P ++ Lq ++ X) := fun X => by rw [List.append_assoc, ← List.append_assoc (Lq.take j), List.take_append_drop, ← List.append_assoc]
                  rw [hdr] at hLj d1 d4
                  have HTK : Hid (P ++ Lq.take j ++ [Lq[j]] = P ++ Lq.take (j + 1)) := by show _ = _; rw [htk, List.append_assoc]
                  have hseen := hLj.1.seen
                  have hall : ∀ x ∈ P ++ Lq ++ Nx, x.2.length < 100000 ∧ PlaceZ Z p.length x.1 := fun x hx => by
                    rw [← HQE.out Nx, hdr] at hx
                    have := d4 x hx
                    exact ⟨by omega, this.2⟩
                  rw [← hdr, HQE.out Nx] at hseen
                  generalize hA : Lq[j] = a at *
                  have hEa : placeE Z l a.1 = 0 := placeE_of ht (by omega) hav
                  have hMe : movesG Z l a.1 = mvZ l Z a.1 := by rw [movesG, if_pos hEa]; simp
                  have hcapj := own_capZ hj2
                  have HRM := Lib.hid (rMoves_c Z A Aj l a.1 c cj wm.drew hlen (by omega) hcapj (hr.later hb0m.drew) (own_rd hj2).1)
                  have hMl := movesG_len' Z l a.1
                  rw [hMe, hEa] at HRM
                  rw [hMe] at hMl
                  have hmvp : ∀ m ∈ mvZ l Z a.1, PlaceZ Z p.length (nx a.1 m) ∧ ∃ ii : Nat, m.1 = (ii : Int) ∧ ii < a.1.length := fun m hm => by
                    refine ⟨mvZ_place _ _ ha4.2 hm, ?_⟩
                    obtain ⟨jj, h1, h2, _⟩ := mvTo_mem hm
                    exact ⟨jj, h2, h1⟩
                  have hLj2 : LeftZ l Z p (P ++ Lq.take j) (a :: (Lq.drop (j + 1) ++ Nx)) S' := hLj
                  have HSTEP := Lib.hid (hLj2.step (n := p.length) ⟨rfl, hin⟩ hZ6 hp4)
                  have HAL := Lib.hid hal
                  have HSEEN := Lib.hid hseen
                  have HALL := Lib.hid hall
                  have HMVP := Lib.hid hmvp
                  have HHJ := Lib.hid hj1
                  have hNxl : Nx.length ≤ 3000 := by
                    have h1 := congrArg List.length hseen
                    simp only [List.length_map, List.length_append] at h1
                    omega
                  have HGJ := Lib.hid hgj
                  have HAR := Lib.hid haR
                  have hal4 : a.1.length ≤ 4 := by omega
                  clear hLj2 hal hgj hcL hseen hall hmvp hj1 d1 d2 d3 d4 haP hL0' haR hA
                  clear hLj hdr htk hEa hMe hrdm hrowm
                  generalize mvZ l Z a.1 = M at *
                  obtain ⟨c0', c1', _⟩ := (x0.call (hbo.trans hbm)).two
                  have hxl := (x0.call (hbo.trans hbm)).lt
                  have hbLl := hbL
                  go_wp2_with (fail)
                  go_cut [13, 14] from 48 to 101 (fun s13 s14 wc => ∃ A13 c13, s13 = .slice A13 M.length c13 ∧ s14 = .int .i64 0 ∧ wc.ownsRow wm.heap.size 54 2 (.slice A13 M.length c13) M.length (cellsP M) ∧ Below wm.heap.size wm wc)
                  case first =>
                    clear hout2 hrz2 hnx hj2
                    go_region_with (go_at_call 30; refine HRM.out.mono ?_; rintro e w5 ⟨A13, c13, rfl, ho5, hb5⟩)
                    all_goals
                      go_wp2_with (fail)
                      go_meet
                      exact ⟨_, _, rfl, rfl, own_base ho5 (Nat.le_refl _), ((Below.refl _ _).drew).trans hb5⟩
                  obtain ⟨A13, c13, rfl, rfl, ho13, hbc⟩ := hcut
                  have hnxc := own_call hnx hbc
                  have hrzc := hrz2.call hbc
                  have houtc := own_call hout2 hbc
                  have hmodc : Mod (fun b => b = w0.heap.size) wo wc := hmod.call hbc
                  clear c0' c1' hcj
                  go_wp2_with (fail)
                  go_loopg [11, 15] M.length (fun gk nv2 iv wi => ∃ (i : Nat) (Nx' : List Nd) (S'' : List (List Int)) (hsN' : List Value) (nv' : Value), nv' = nv2 ∧ Hid (i + gk = M.length) ∧ .int .i64 (i : Int) = iv ∧ Hid ((M.take i).foldl (stepM a) (Lq.drop (j + 1) ++ Nx, S') = (Lq.drop (j + 1) ++ Nx', S'')) ∧ Hid (S'' = (P ++ Lq ++ Nx').map Prod.fst) ∧ Hid (∀ x ∈ Nx', x.2.length = rd ∧ PlaceZ Z p.length x.1) ∧ Hid (Nx'.length ≤ 3000 + i) ∧ wi.ownsRow wo.heap.size 25 1 nv' Nx'.length hsN' ∧ RowsZ wi (w0.heap.size + 1) hsN' (Nx'.map Prod.fst) ∧ wi.ownsRow w0.heap.size 3 1 (.slice (some ⟨w0.heap.size, 0, none⟩) k k) k (ints (distL (P ++ Lq ++ Nx') k)) ∧ wi.ownsRow wm.heap.size 54 2 (.slice A13 M.length c13) M.length (cellsP M) ∧ Mod (fun b => b = w0.heap.size) wo wi ∧ wm.heap.size ≤ wi.heap.size)
                  case atStart => exact ⟨0, Nx, S', hsN, _, rfl, by simp [Hid], rfl, by simp [Hid], HSEEN.out, by intro x hx; exact ⟨HNR.out x hx, (HALL.out x (List.mem_append_right _ hx)).2⟩, by show _ ≤ _; omega, hnxc, hrzc, houtc, ho13, hmodc, hbc.size⟩
                  case round =>
                    obtain ⟨i, Nx', S'', hsN', nv', rfl, HI, rfl, HF, HSS, HNV, HNL, hnx', hrz', hout', hmv', hmod', hsz'⟩ := hrel
                    obtain ⟨wi, rfl⟩ : ∃ x, x = wr := ⟨_, rfl⟩
                    rcases gk with _ | gi
                    · obtain rfl : i = M.length := HI.out
                      have HF2 := HF.out
                      rw [List.take_length] at HF2
                      have HST2 := HSTEP.out
                      rw [HF2, HTK.out] at HST2
                      have HREL := Lib.hid (And.intro HST2 (And.intro hnx' (And.intro hrz' (And.intro hout' hmod'))))
                      clear HST2 HF2 HSTEP hnx' hrz' hout' hmod' hmv'
                      go_wp2_with (fail)
                      go_roundg gj
                      case rel => exact ⟨j + 1, Nx', S'', hsN', _, rfl, by have h := HJ.out; show _ = _; omega, by go_num, HREL.out.1, by intro x hx; exact (HNV.out x hx).1, HREL.out.2.1, HREL.out.2.2.1, HREL.out.2.2.2.1, HREL.out.2.2.2.2⟩
                      case measure => omega
                    · have hil : i < M.length := by have h := HI.out; omega
                      have hil' : (i : Int) < (M.length : Int) := by omega
                      obtain ⟨An, cn, rfl⟩ := own_form hnx'
                      obtain ⟨bm, om, rfl, hbml, d0, d1⟩ := (own_rd hmv').1.pair hil
                      have hmm := HMVP.out (M.getD i (0, 0)) (by simp [hil])
                      have HTKI : Hid (M.take (i + 1) = M.take i ++ [M.getD i (0, 0)]) := take_snoc hil
                      generalize M.getD i (0, 0) = m at *
                      obtain ⟨mi, mt⟩ := m
                      obtain ⟨hpv, ii, hii, hiil⟩ := hmm
                      simp only [] at hii d0 d1
                      subst hii
                      have hpv' : PlaceZ Z p.length (a.1.set ii mt) := hpv
                      obtain ⟨bL2, oL2, he, hbL2, hcL2⟩ := (hrd.modz hmod' hAL).at_ (k := j) (by have h1 := hrows.1; simp only [List.length_map] at h1; rw [h1]; exact hjl)
                      cases he
                      have hcj := hcL2 j _ HHJ.out
                      obtain ⟨Aj2, cj2, q1, q2⟩ := (hrows.mod hmod' (fun b hb => by have h2 : b = w0.heap.size := hb; omega)).2 j (by simpa using hjl)
                      rw [HGJ.out] at q1 q2
                      rw [HHJ.out] at q1
                      cases q1
                      have hszo := hmod'.size
                      have hsom := hmod.size
                      have hbi : Below w0.heap.size wo wi := hmod'.below hbo.size (fun b hb h => by have h2 : b = w0.heap.size := h; omega)
                      have ha0 : Below wi.heap.size wi (wi.alloc (.cells #[] 3)) := bl_alloc (Below.refl _ _) _
                      have HLv : Hid (∀ x ∈ P ++ Lq ++ Nx', x.2.length < 100000 ∧ PlaceZ Z p.length x.1) := by
                        intro x hx
                        rcases List.mem_append.1 hx with h | h
                        · exact HALL.out x (List.mem_append_left _ h)
                        · have := HNV.out x h; exact ⟨by omega, this.2⟩
                      clear hcL2 hpv
                      go_wp2_with (at_builtin; refine wpList_append_any rfl _ _ 25 rfl wi.heap.size 3 i0 _ 8 Try.underlying25 hi hz0 hz1 hz2 rfl _ 0 [] rfl (World.ownsRow_made (e := 3) (size := 1) wi #[] 0 (Nat.le_refl _) (by decide) rfl) Aj a.1 cj rfl ((own_rd q2).1.later ha0) (by unfold maxLen; omega) (by omega) (by simp) ?_)
                      intro Av cv w5 hov hg5
                      have hb5 : Below wi.heap.size wi w5 := ha0.trans (grown_below (World.ownsRow_made (e := 3) (size := 1) wi #[] 0 (Nat.le_refl _) (by decide) rfl) hg5 (by simp))
                      have hov' : w5.ownsRow wi.heap.size 3 1 (.slice Av a.1.length cv) a.1.length (ints a.1) := by simpa using hov
                      obtain ⟨gv, rfl, hgv, n0, f0, _⟩ := own_putI hov' hiil mt
                      have e0 := (hb5.cell (p := ⟨bm, om + i * 2, none⟩) hbml).trans d0
                      have e1 := (hb5.cell (p := ⟨bm, om + i * 2 + 1, none⟩) hbml).trans d1
                      have hovD : w5.drew.ownsRow wi.heap.size 3 1 (.slice (some ⟨gv, 0, none⟩) a.1.length cv) a.1.length (ints a.1) := hov'
                      obtain ⟨gv2, he2, _, n0D, f0D, hov6⟩ := own_putI hovD hiil mt
                      cases he2
                      simp only [List.length_set] at hov6
                      have hb6 : Below wi.heap.size wi (w5.drew.setCell ⟨gv, ii, none⟩ (.int .i64 mt)) := bl_set hb5.drew hgv _
                      have hv6 : ∀ x ∈ a.1.set ii mt, 0 ≤ x ∧ x < 6 := fun x hx => by have := hpv'.2 x hx; omega
                      have HN6 := Lib.hid (number_c (some ⟨gv, 0, none⟩) (a.1.set ii mt) cv (w5.drew.setCell ⟨gv, ii, none⟩ (.int .i64 mt)) (by rw [List.length_set]; exact hal4) hv6 (own_rd (hov6 : World.ownsRow _ _ _ _ (.slice (some ⟨gv, 0, none⟩) a.1.length cv) _ _)).1)
                      rw [List.length_set] at HN6
                      have hnb := HBND (a.1.set ii mt) hpv'.1 hv6
                      have HSTP : Hid (∀ S0 : List (List Int), a.1.set ii mt ∉ S0 → stepM a (Lq.drop (j + 1) ++ Nx', S0) ((ii : Int), mt) = (Lq.drop (j + 1) ++ (Nx' ++ [(a.1.set ii mt, ((ii : Int), mt) :: a.2)]), S0 ++ [a.1.set ii mt])) := fun S0 h => by
                        rw [stepM_new h, List.append_assoc]
                      have HSTQ : Hid (∀ S0 : List (List Int), a.1.set ii mt ∈ S0 → stepM a (Lq.drop (j + 1) ++ Nx', S0) ((ii : Int), mt) = (Lq.drop (j + 1) ++ Nx', S0)) := fun S0 h => stepM_old h
                      have HVL : Hid ((a.1.set ii mt).length = p.length) := hpv'.1
                      have HVA : Hid ((a.1.set ii mt).length = a.1.length) := List.length_set ..
                      have HV6 := Lib.hid hv6
                      have HVZ := Lib.hid hpv'.2
                      have hLN : numP (a.1.set ii mt) < (k : Int) := hnb.2
                      generalize a.1.set ii mt = v at *
                      obtain ⟨nvn, hnvn⟩ := Int.eq_ofNat_of_zero_le hnb.1
                      rw [hnvn] at HN6 hLN
                      have hnk : nvn < k := by omega
                      have hout6 := own_call hout' hb6
                      have hnx6 := own_call hnx' hb6
                      have hrz6 := hrz'.call hb6
                      have hmv6 := own_call hmv' hb6
                      have hmod6 := hmod'.call hb6
                      have hsz6 := hb6.size
                      have hout6' : (w5.drew.setCell ⟨gv, ii, none⟩ (.int .i64 mt)).ownsRow w0.heap.size 3 1 (.slice (some ⟨w0.heap.size, 0, none⟩) (distL (P ++ Lq ++ Nx') k).length k) (distL (P ++ Lq ++ Nx') k).length (ints (distL (P ++ Lq ++ Nx') k)) := by rw [distL_len]; exact hout6
                      obtain ⟨g9, he9, _, on0, of0, hout7⟩ := own_putI hout6' (i := nvn) (by rw [distL_len]; exact hnk) (rd : Int)
                      cases he9
                      rw [distL_get _ hnk] at on0
                      simp only [List.length_set, distL_len] at hout7
                      have HGV := Lib.hid hov6
                      clear hov hov' hovD hov6 hout6' hnb hpv' hv6 hout' hnx' hrz' hmv' hmod' q2 HBND
                      go_wp2_with (fail)
                      go_still_tail 12, (by kernel_rfl)
                      change wpList _ _ _ _ _ w5.drew
                      clear n0 f0 e0 e1 d0 d1 hcj
                      generalize w5.drew = wd at *
                      go_wp2_with (fail)
                      clear n0D f0D
                      generalize wd.setCell ⟨gv, ii, none⟩ (.int .i64 mt) = w6 at *
                      refine HN6.out.mono ?_
                      rintro e w9 ⟨rfl, rfl⟩
                      by_cases hmem : v ∈ S''
                      · have hdo : dOf (P ++ Lq ++ Nx') nvn ≠ 1000000 := dOf_seen (by
                          rw [HSS.out] at hmem
                          obtain ⟨x, hx, e⟩ := List.mem_map.1 hmem
                          exact ⟨x, hx, by rw [e]; exact hnvn⟩) (fun x hx => (HLv.out x hx).1)
                        have HF2 : Hid ((M.take (i + 1)).foldl (stepM a) (Lq.drop (j + 1) ++ Nx, S') = (Lq.drop (j + 1) ++ Nx', S'')) := by
                          show _ = _
                          rw [HTKI.out, List.foldl_append, HF.out]
                          exact HSTQ.out _ hmem
                        have HREL := Lib.hid (And.intro hnx6 (And.intro hrz6 (And.intro hout6 (And.intro hmv6 hmod6))))
                        generalize dOf (P ++ Lq ++ Nx') nvn = dv at on0 hdo
                        clear hnx6 hrz6 hout6 hmv6 hmod6 hout7 hmem of0 HF
                        go_wp2_with (fail)
                        go_roundg gi
                        case rel => exact ⟨i + 1, Nx', S'', hsN', _, rfl, by have h := HI.out; show _ = _; omega, by go_num, HF2, HSS, HNV, by have h := HNL.out; show _ ≤ _; omega, HREL.out.1, HREL.out.2.1, HREL.out.2.2.1, HREL.out.2.2.2.1, HREL.out.2.2.2.2, Nat.le_trans hsz' hsz6⟩
                        case measure => omega
                      · have hfar : ∀ x ∈ P ++ Lq ++ Nx', numP x.1 ≠ numP v := fun x hx e => hmem (by
                          rw [HSS.out]
                          have h1 := (HLv.out x hx).2
                          exact List.mem_map.2 ⟨x, hx, numP_inj p.length x.1 v h1.1 HVL.out (fun y hy => by have := h1.2 y hy; omega) HV6.out e⟩)
                        have hdo : dOf (P ++ Lq ++ Nx') nvn = 1000000 := dOf_not (by rw [← hnvn]; exact hfar)
                        have hds := distL_snoc (L := P ++ Lq ++ Nx') (y := (v, ((ii : Int), mt) :: a.2)) (N := k) hfar hnvn
                        have hrl : ((((ii : Int), mt) :: a.2).length : Int) = (rd : Int) := by have h := HAR.out; rw [List.length_cons]; omega
                        rw [show ((v, ((ii : Int), mt) :: a.2) : Nd).2.length = (((ii : Int), mt) :: a.2).length from rfl, hrl] at hds
                        rw [hds] at hout7
                        rw [hdo] at on0
                        have HF2 : Hid ((M.take (i + 1)).foldl (stepM a) (Lq.drop (j + 1) ++ Nx, S') = (Lq.drop (j + 1) ++ (Nx' ++ [(v, ((ii : Int), mt) :: a.2)]), S'' ++ [v])) := by
                          show _ = _
                          rw [HTKI.out, List.foldl_append, HF.out]
                          exact HSTP.out _ hmem
                        have hnx7 := ownsRow_setCell_below hnx6 (a := ⟨w0.heap.size, nvn, none⟩) hgoo (.int .i64 (rd : Int))
                        have hv7 := ownsRow_setCell_below (own_base HGV.out (by omega : w0.heap.size + 1 ≤ wi.heap.size)) (a := ⟨w0.heap.size, nvn, none⟩) (Nat.lt_succ_self _) (.int .i64 (rd : Int))
                        have hmv7 := ownsRow_setCell_below hmv6 (a := ⟨w0.heap.size, nvn, none⟩) (by show w0.heap.size < _; omega) (.int .i64 (rd : Int))
                        have hrz7 := hrz6.set (g := w0.heap.size) (i := nvn) (Nat.lt_succ_self _) (.int .i64 (rd : Int))
                        have hmod7 := hmod6.setCell (g := w0.heap.size) (i := nvn) (.inr rfl) (.int .i64 (rd : Int))
                        have HNl := HNL.out
                        have hcell : ((w6.setCell ⟨w0.heap.size, nvn, none⟩ (.int .i64 (rd : Int))).alloc (.cells #[.slice (some ⟨gv, 0, none⟩) a.1.length cv] 25)).cell? ⟨w6.heap.size, 0, none⟩ = some (.slice (some ⟨gv, 0, none⟩) a.1.length cv) := by
                          have h := (Bx.new (w6.setCell ⟨w0.heap.size, nvn, none⟩ (.int .i64 (rd : Int))) 25 #[.slice (some ⟨gv, 0, none⟩) a.1.length cv]).cell 0
                          rw [World.size_setCell] at h
                          exact h
                        have hb7a : Below (w6.setCell ⟨w0.heap.size, nvn, none⟩ (.int .i64 (rd : Int))).heap.size (w6.setCell ⟨w0.heap.size, nvn, none⟩ (.int .i64 (rd : Int))) ((w6.setCell ⟨w0.heap.size, nvn, none⟩ (.int .i64 (rd : Int))).alloc (.cells #[.slice (some ⟨gv, 0, none⟩) a.1.length cv] 25)) := bl_alloc (Below.refl _ _) _
                        have hnx7a := hnx7.alloc (.cells #[.slice (some ⟨gv, 0, none⟩) a.1.length cv] 25)
                        have hout7a := own_call hout7 hb7a
                        have hmv7a := own_call hmv7 hb7a
                        have hv7a := own_call hv7 hb7a
                        have hrz7a := hrz7.call hb7a
                        have hmod7a := hmod7.alloc (.cells #[.slice (some ⟨gv, 0, none⟩) a.1.length cv] 25)
                        have hsz7a : wo.heap.size ≤ ((w6.setCell ⟨w0.heap.size, nvn, none⟩ (.int .i64 (rd : Int))).alloc (.cells #[.slice (some ⟨gv, 0, none⟩) a.1.length cv] 25)).heap.size := by rw [World.size_alloc, World.size_setCell]; omega
                        clear hnx6 hrz6 hmv6 hmod6 hout6 HF hds hrl hdo hfar HGV hnx7 hout7 hmv7 hv7 hrz7 hmod7 hb7a
                        go_wp2_with (fail)
                        refine HN6.out.mono ?_
                        rintro e w10 ⟨rfl, rfl⟩
                        clear HN6
                        go_wp2_with (at_builtin; refine wpList_append_own _ rfl _ _ 101 rfl wo.heap.size 25 i1 _ 1 24 Try.underlying101 hj hy0 hy1 hy2 rfl (by decide) _ _ _ rfl hnx7a ⟨w6.heap.size, 0, none⟩ 1 1 [.slice (some ⟨gv, 0, none⟩) a.1.length cv] rfl rfl ?k1 ?k2 ?k3 ?k4 ?k5 ?_)
                        case k1 =>
                          intro jj u hu
                          match jj, hu with
                          | 0, hu => simp at hu; subst hu; simpa [Addr.add] using hcell
                        case k2 => intro u hu; rw [List.mem_singleton.1 hu]; rfl
                        case k3 => unfold maxLen; omega
                        case k4 => omega
                        case k5 => exact hsz7a
                        intro v2 w8 hown8 hg8 _
                        obtain ⟨A8, c8, rfl⟩ := own_form hown8
                        have hb8 := hg8.size
                        have hv8 := own_typed hv7a hnx7a (by decide) hg8
                        have hout8 := own_typed hout7a hnx7a (by decide) hg8
                        have hmv8 := own_typed hmv7a hnx7a (by decide) hg8
                        have hrz8 := hrz7a.grown hnx7a (by decide) hg8
                        have hmod8 := hmod7a.grown hg8 (fun b hb => .inl (own_ge hnx7a hb))
                        have hsz8 : wm.heap.size ≤ w8.heap.size := by rw [World.size_alloc, World.size_setCell] at hb8; omega
                        rw [← HVA.out] at hv8
                        have hrz9 := hrz8.snoc hv8
                        rw [HVA.out] at hrz9
                        have HREL := Lib.hid (And.intro hown8 (And.intro hrz9 (And.intro hout8 (And.intro hmv8 hmod8))))
                        clear hown8 hrz9 hrz8 hv8 hout8 hmv8 hmod8 hnx7a hout7a hmv7a hv7a hrz7a hmod7a hg8 hb8 hcell on0 of0
                        go_wp2_with (fail)
                        go_roundg gi
                        case rel =>
                          refine ⟨i + 1, Nx' ++ [(v, ((ii : Int), mt) :: a.2)], S'' ++ [v], hsN' ++ [.slice (some ⟨gv, 0, none⟩) a.1.length cv], .slice A8 (Nx'.length + 1) c8, rfl, by have h := HI.out; show _ = _; omega, by go_num, HF2, ?_, ?_, ?_, ?_, ?_, ?_, HREL.out.2.2.2.1, HREL.out.2.2.2.2, hsz8⟩
                          · show _ = _; rw [HSS.out]; simp
                          · intro x hx
                            rcases List.mem_append.1 hx with h | h
                            · exact HNV.out x h
                            · rw [List.mem_singleton.1 h]
                              refine ⟨by show List.length (((ii : Int), mt) :: a.2) = rd; have h2 := HAR.out; rw [List.length_cons]; exact h2, HVL.out, HVZ.out⟩
                          · show _ ≤ _; rw [List.length_append, List.length_singleton]; omega
                          · rw [List.length_append, List.length_singleton]; exact HREL.out.1
                          · rw [List.map_append]; exact HREL.out.2.1
                          · have h := HREL.out.2.2.1
                            rw [← List.append_assoc]
                            exact h
                        case measure => omega
        · have hkl' : (k : Int) < (N : Int) := by have h := HK.out; omega
          have hLl : (List.replicate k (1000000 : Int) ++ List.replicate (gi + 1) 0).length = N := by have h := HK.out; simp; omega
          have HSL : Hid ((List.replicate k (1000000 : Int) ++ List.replicate (gi + 1) 0).set k 1000000 = List.replicate (k + 1) 1000000 ++ List.replicate gi 0) := set_mid _ _ _ _
          have hkL : k < (List.replicate k (1000000 : Int) ++ List.replicate (gi + 1) 0).length := by omega
          generalize List.replicate k (1000000 : Int) ++ List.replicate (gi + 1) 0 = L at *
          rw [← hLl] at hown
          obtain ⟨g, he, hg, n0, f0, hown2⟩ := own_putI hown hkL 1000000
          cases he
          simp only [List.length_set] at hown2
          rw [hLl, HSL.out] at hown2
          have HO := Lib.hid hown2
          clear hown2 hown HSL
          go_wp2_with (fail)
          go_roundg gi
          case rel => exact ⟨k + 1, by have h := HK.out; show _ = _; omega, by go_num, HO.out, hb.setCell (p := ⟨w0.heap.size, k, none⟩) hg _⟩
          case measure => omega
    · have hkl : k < p.length := by have h := HK.out; omega
      have hkl' : (k : Int) < (p.length : Int) := by omega
      have hs6 : 6 ^ k ≤ 216 := by
        match k, (by omega : k < 4) with
        | 0, _ => decide
        | 1, _ => decide
        | 2, _ => decide
        | 3, _ => decide
      have HPW : Hid (6 ^ (k + 1) = 6 ^ k * 6) := Nat.pow_succ 6 k
      generalize 6 ^ k = s at *
      have hw1 : IntKind.i64.wrap ((s : Int) * 6) = (s : Int) * 6 := by simp [IntKind.wrap, IntKind.bits, IntKind.signed]; omega
      go_wp2_with (fail)
      go_roundg gi
      case rel => exact ⟨k + 1, by have h := HK.out; show _ = _; omega, by go_num, by rw [HPW.out]; push_cast; rfl, rfl⟩
      case measure => omega
end Go.Proofs.Ytjgpfnnokdcgoaa
