/- How many places are reached, and how far the farthest one is. -/
import Derived.Test.YtjgpfnnokdcgoaaSearch
import Derived.Deep.LoopGhost
namespace Go.Proofs.Ytjgpfnnokdcgoaa
open Go.RowKit Go.Maps

/-- How many places are reached. -/
def reachG (Z : Int) (l : List (Int × Int)) (p : List Int) : Int := if placeE Z l p = 0 then ((reachL l Z.toNat p).length : Int) else 0
/-- How far the last one of a list is. -/
def lastFar (L : List Nd) : Nat := ((L.getLast?).map fun x => x.2.length).getD 0
theorem lastFar_snoc (L : List Nd) (a : Nd) : lastFar (L ++ [a]) = a.2.length := by simp [lastFar]
def farG (Z : Int) (l : List (Int × Int)) (p : List Int) : Int := if placeE Z l p = 0 then (lastFar (reachL l Z.toNat p) : Int) else 0

set_option maxRecDepth 100000 in
set_option maxHeartbeats 2000000 in
theorem Reach_c (Z : Int) (A B : Option Addr) (l : List (Int × Int)) (p : List Int) (c d : Nat) (w : World) (hlen : l.length ≤ 1000) (hlen' : p.length ≤ 1000) (hr : Rd w A (cellsP l)) (hs : Rd w B (ints p)) :
    Calls Try.prog 39 #[trapV Z A l.length c, .slice B p.length d] w fun e w' => e = .returned (.tuple #[.int .i64 (reachG Z l p), .int .i64 (placeE Z l p)]) ∧ Below w.heap.size w w' := by
  have x0 := Bx.new w 24 #[.int .i64 Z, .slice A l.length c]
  have hb0 := bl_alloc (Below.refl w.heap.size w) (.cells #[.int .i64 Z, .slice A l.length c] 24)
  generalize hw0 : w.alloc (.cells #[.int .i64 Z, .slice A l.length c] 24) = w0 at *
  have HV := Lib.hid (place_c Z A B l p c d w0 hlen hlen' (hr.later hb0) (hs.later hb0))
  obtain ⟨c0, c1, _⟩ := x0.two
  by_cases hp : placeE Z l p = 0
  · obtain ⟨ht, hp4, hin, hnd⟩ := placeE_zero hp
    obtain ⟨n, rfl, hn1, hn6⟩ := trap_nat ht
    have hpn := nodup_le hnd hin
    have HS := fun w1 h hh => Lib.hid (search_c n A B l p c d w1 ht hp4 hpn hin h hh)
    have e1 : reachG n l p = ((reachL l n p).length : Int) := by rw [reachG, if_pos hp]; simp
    rw [e1]
    rw [hp] at HV ⊢
    clear e1 hp hin hnd ht
    go_enter Try.func39, Try.ntmps39
    go_wp2_with (fail)
    refine HV.out.mono ?_
    rintro e w1 ⟨rfl, hb1⟩
    have hb01 := bl_call hb0 hb1
    clear c0 c1
    obtain ⟨c0, c1, _⟩ := (x0.call hb1).two
    go_wp2_with (fail)
    refine (HS _ (hr.later hb01) (hs.later hb01)).out.mono ?_
    rintro e w2 ⟨bo, bn, bi, bs, bm, h0, h1, h2, h3, h4, h5, g, rfl, hz, hb2⟩
    have hb02 := bl_call hb01 hb2
    have HN := fun P Q S w (h : SZ w w1.heap.size bo bn bi bs bm n p.length l p P Q S h0 h1 h2 h3 h4 h5) => Lib.hid (next_z h)
    unfold srV
    clear c0 c1
    go_wp2_with (fail)
    refine (HN _ _ _ _ hz).out.mono ?_
    rintro e w3 ⟨P, Q, S, v, rfl, hz3, hb3, hv⟩
    obtain ⟨a, ga, rfl, hv1⟩ : ∃ a ga, P = [a] ∧ v = .pointer (some ⟨ga, 0, none⟩) := by
      rcases hv with ⟨h, _⟩ | ⟨ga, a, h1, h2, h3⟩
      · simp at h
      · exact ⟨a, ga, by simpa using h2, h1⟩
    subst hv1
    have hb03 : Below w.heap.size w w3 := hb02.trans (hb3.mono hb01.size)
    have hlN := hz3.le
    simp only [List.length_singleton] at hlN
    clear hv hr hs hz
    go_wp2_with (fail)
    go_loopg [7, 9] (reachL l n p).length (fun gk iv v wr => ∃ (k : Nat) (P : List Nd) (Q : List (Nat × Nd)) (S : List (List Int)) (u : Value), u = v ∧ Hid (k + gk = (reachL l n p).length) ∧ iv = .int .i64 (k : Int) ∧ SZ wr w1.heap.size bo bn bi bs bm n p.length l p P Q S h0 h1 h2 h3 h4 h5 ∧ Below w.heap.size w wr ∧ ((gk = 0 ∧ u = .pointer none) ∨ (gk ≠ 0 ∧ P.length = k + 1 ∧ ∃ g, u = .pointer (some ⟨g, 0, none⟩))))
    case atStart => exact ⟨0, _, _, _, _, rfl, by simp [Hid], rfl, hz3, hb03, .inr ⟨by omega, rfl, ga, rfl⟩⟩
    case round =>
      obtain ⟨k, P, Q, S, v, rfl, HK, rfl, hz, hb, hv⟩ := hrel
      rcases gk with _ | gi
      · obtain ⟨_, rfl⟩ : (0 : Nat) = 0 ∧ v = .pointer none := by
          rcases hv with h | h
          · exact h
          · exact absurd rfl h.1
        have hk := HK.out
        rw [Nat.add_zero] at hk
        have HK2 := Lib.hid hk
        clear hk hv
        go_wp2_with (fail)
        go_ret2
        exact ⟨by rw [← HK2.out]; rfl, hb⟩
      · obtain ⟨g2, rfl, hPk⟩ : ∃ g, v = .pointer (some ⟨g, 0, none⟩) ∧ P.length = k + 1 := by
          rcases hv with h | ⟨_, h1, g, h2⟩
          · exact absurd h.1 (by omega)
          · exact ⟨g, h2, h1⟩
        have hl := hz.le
        have hHK := HK.out
        clear hv
        go_wp2_with (fail)
        refine (HN _ _ _ _ hz).out.mono ?_
        rintro e w4 ⟨P', Q', S', v, rfl, hz4, hb4, hv⟩
        have hbw : Below w.heap.size w w4 := hb.trans (hb4.mono hb01.size)
        go_wp2_with (fail)
        go_roundg gi
        case rel =>
          refine ⟨k + 1, P', Q', S', _, rfl, by show _ = _; omega, by go_num, hz4, hbw, ?_⟩
          rcases hv with ⟨_, h2, h3, h4⟩ | ⟨g', a', h1, h2, _⟩
          · left
            rw [h4, hPk] at hHK
            exact ⟨by omega, h2⟩
          · right
            have hl' := hz4.le
            rw [h2, List.length_append, List.length_singleton] at hl' ⊢
            exact ⟨by omega, by omega, g', h1⟩
        case measure => omega
  · have e1 : reachG Z l p = 0 := by rw [reachG, if_neg hp]
    rw [e1]
    clear e1
    generalize placeE Z l p = te at *
    go_enter Try.func39, Try.ntmps39
    go_wp2_with (fail)
    refine HV.out.mono ?_
    rintro e w1 ⟨rfl, hb1⟩
    go_wp2_with (fail)
    go_ret2
    exact ⟨rfl, bl_call hb0 hb1⟩
end Go.Proofs.Ytjgpfnnokdcgoaa
