/- One more arrival of a search, or none. -/
import Derived.Test.YtjgpfnnokdcgoaaNext
import Derived.Test.YtjgpfnnokdcgoaaBfs
namespace Go.Proofs.Ytjgpfnnokdcgoaa
open Go.RowKit Go.Maps

set_option maxRecDepth 100000 in
set_option maxHeartbeats 2000000 in
theorem next0_c (B bo bn bi bs bm : Nat) (S : List (List Int)) (w : World) (hw : SQ w B bo bm [] S) :
    Calls Try.prog 94 #[.pointer (some ⟨bo, 0, none⟩), .pointer (some ⟨bn, 0, none⟩), .pointer (some ⟨bi, 0, none⟩), .pointer (some ⟨bs, 0, none⟩)] w fun e w' => e = .returned (.pointer none) ∧ w' = w := by
  obtain ⟨v, y0, hoff⟩ := hw.open_
  obtain ⟨og, oo, oc, rfl, ho1, ho2, ho3⟩ := hoff.lt
  have n1 := y0.cell 0
  clear hw hoff
  simp only [List.map_nil, List.length_nil] at *
  go_enter Try.func94, Try.ntmps94
  go_wp2_with (fail)
  go_ret
  exact ⟨rfl, rfl⟩

/-- What a search has come to. -/
structure SZ (w : World) (B bo bn bi bs bm : Nat) (Z n : Nat) (l : List (Int × Int)) (s0 : List Int) (P : List Nd) (Q : List (Nat × Nd)) (S : List (List Int)) (h0 h1 h2 h3 h4 h5 : Value) : Prop where
  sn : SN w B bo bn bi bs bm Z l h0 h1 h2 h3 h4 h5 n
  sq : SQ w B bo bm Q S
  left : LeftZ l Z s0 P (Q.map Prod.snd) S
  z6 : Z ≤ 6
  n4 : n ≤ 4
  nz : n ≤ Z
  start : PlaceZ Z n s0
theorem SZ.le {w : World} {B bo bn bi bs bm Z n : Nat} {l : List (Int × Int)} {s0 : List Int} {P : List Nd} {Q : List (Nat × Nd)} {S : List (List Int)} {h0 h1 h2 h3 h4 h5 : Value} (h : SZ w B bo bn bi bs bm Z n l s0 P Q S h0 h1 h2 h3 h4 h5) : P.length ≤ (reachL l Z s0).length ∧ (reachL l Z s0).length ≤ 1296 := by
  constructor
  · rw [h.left.2, List.length_append]; omega
  · obtain ⟨S', hS⟩ := reachL_inv (l := l) h.start h.z6 h.n4
    have := Inv.le h.start h.z6 h.n4 _ _ _ hS
    rwa [hS.seen, List.length_map, List.append_nil] at this
theorem SZ.call {w w' : World} {B bo bn bi bs bm Z n : Nat} {l : List (Int × Int)} {s0 : List Int} {P : List Nd} {Q : List (Nat × Nd)} {S : List (List Int)} {h0 h1 h2 h3 h4 h5 : Value} (h : SZ w B bo bn bi bs bm Z n l s0 P Q S h0 h1 h2 h3 h4 h5) (hb : Below w.heap.size w w') : SZ w' B bo bn bi bs bm Z n l s0 P Q S h0 h1 h2 h3 h4 h5 := by
  obtain ⟨v, y0, hoff⟩ := h.sq.open_
  exact ⟨h.sn.keep (K3.call hb) y0 h.sq.seen, h.sq.call hb, h.left, h.z6, h.n4, h.nz, h.start⟩

theorem next_z {B bo bn bi bs bm Z n : Nat} {l : List (Int × Int)} {s0 : List Int} {P : List Nd} {Q : List (Nat × Nd)} {S : List (List Int)} {h0 h1 h2 h3 h4 h5 : Value} {w : World} (h : SZ w B bo bn bi bs bm Z n l s0 P Q S h0 h1 h2 h3 h4 h5) :
    Calls Try.prog 94 #[.pointer (some ⟨bo, 0, none⟩), .pointer (some ⟨bn, 0, none⟩), .pointer (some ⟨bi, 0, none⟩), .pointer (some ⟨bs, 0, none⟩)] w fun e w' => ∃ P' Q' S' v, e = .returned v ∧ SZ w' B bo bn bi bs bm Z n l s0 P' Q' S' h0 h1 h2 h3 h4 h5 ∧ Below B w w' ∧
      ((Q = [] ∧ v = .pointer none ∧ P' = P ∧ reachL l Z s0 = P) ∨ ∃ g a, v = .pointer (some ⟨g, 0, none⟩) ∧ P' = P ++ [a] ∧ ArrR w' B g a.1 a.2) := by
  cases Q with
  | nil =>
    refine (next0_c B bo bn bi bs bm S w h.sq).mono ?_
    rintro e w' ⟨rfl, rfl⟩
    exact ⟨P, [], S, _, rfl, h, Below.refl _ _, .inl ⟨rfl, rfl, rfl, h.left.done⟩⟩
  | cons x Q =>
    obtain ⟨g, a⟩ := x
    obtain ⟨b1, b2, b3, b4⟩ := h.left.bounds h.start h.z6 h.n4
    have ha := b4 a (by simp)
    simp only [List.map_cons, List.length_cons, List.length_map] at b1
    refine (next_c B bo bn bi bs bm Z l h0 h1 h2 h3 h4 h5 n g a Q S w h.sn h.sq h.z6 ha.2.1 h.n4 h.nz ha.2.2 (fun x hx => (b3 x hx).1) (by omega) (by omega) (by omega)).mono ?_
    rintro e w' ⟨rfl, Q', S', hq, hf, hk, hb⟩
    obtain ⟨v, y0, hoff⟩ := h.sq.open_
    have hl := h.left.step h.start h.z6 h.n4
    rw [show mvZ l Z a.1 = mvTo l Z a.1 n by rw [← ha.2.1], hf] at hl
    have hA := h.sq.arrs (g, a) (by simp)
    exact ⟨P ++ [a], Q', S', _, rfl, ⟨h.sn.keep hk y0 h.sq.seen, hq, hl, h.z6, h.n4, h.nz, h.start⟩, hb, .inr ⟨g, a, rfl, rfl, ArrR.kept (fun _ _ hx => hk.ty y0 h.sq.seen hx (by decide) (by decide)) _ _ _ hA⟩⟩
end Go.Proofs.Ytjgpfnnokdcgoaa
