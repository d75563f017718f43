/- The walk of the law on free zones and moves. -/
import Derived.Test.YtjgpfnnokdcgoaaKnownZ
import Derived.Test.YtjgpfnnokdcgoaaRmoves
namespace Go.Proofs.Ytjgpfnnokdcgoaa
open Go.RowKit Go.Maps

theorem placeE_len {Z : Int} {l : List (Int × Int)} {p : List Int} (h : placeE Z l p = 0) : p.length ≤ 4 ∧ 0 ≤ Z ∧ Z ≤ 6 := by
  obtain ⟨ht, hp4, _, _⟩ := placeE_zero h
  obtain ⟨n, rfl, _, h6⟩ := trap_nat ht
  omega
theorem freeG_len (Z : Int) (l : List (Int × Int)) (p : List Int) : (freeG Z l p).length ≤ 1000 := by
  rw [freeG]
  split
  · rename_i h
    have h1 := placeE_len h
    have := upTo_len (fun z => !p.contains z) Z.toNat
    rw [freeL]; omega
  · simp
theorem movesG_len (Z : Int) (l : List (Int × Int)) (p : List Int) : (movesG Z l p).length ≤ 1000 := by
  rw [movesG]
  split
  · rename_i h
    have h1 := placeE_len h
    have h2 := mvTo_len l Z.toNat p p.length
    have h3 : p.length * Z.toNat ≤ 4 * 6 := Nat.mul_le_mul h1.1 (by omega)
    omega
  · simp

set_option maxRecDepth 100000 in
set_option maxHeartbeats 4000000 in
theorem zoneMoves_walk (Z : Int) (A : Option Addr) (l : List (Int × Int)) (c : Nat) (B : Option Addr) (p : List Int) (d : Nat) (w : World) (_hcap : l.length ≤ c) (hcap' : p.length ≤ d) (hr : Rd w A (cellsP l)) (hs : Rd w B (ints p)) :
    Calls Try.prog 4 #[trapV Z A l.length c, .slice B p.length d] w fun e w' => e = .returned (.bool true) ∧ Below w.heap.size w w' := by
  have HL := fun w => Lib.hid (long_c Z A l.length c w)
  have HM := fun w => Lib.hid (many_c B p.length d w)
  have HK := fun w => Lib.hid (known_c w)
  have x0 := Bx.new w 24 #[.int .i64 Z, .slice A l.length c]
  have hb0 := bl_alloc (Below.refl w.heap.size w) (.cells #[.int .i64 Z, .slice A l.length c] 24)
  generalize hw0 : w.alloc (.cells #[.int .i64 Z, .slice A l.length c] 24) = w0 at *
  obtain ⟨c0, c1, _⟩ := x0.two
  by_cases hlong : 60 < l.length
  · rw [decide_eq_true hlong] at HL
    go_enter Try.func4, Try.ntmps4
    go_wp2_with (fail)
    refine (HL _).out.mono ?_
    rintro e w1 ⟨rfl, hb1⟩
    go_wp2_with (fail)
    refine (HK _).out.mono ?_
    rintro e w2 ⟨rfl, hb2⟩
    go_wp2_with (fail)
    go_ret
    exact ⟨rfl, bl_call hb0 (bl_call hb1 hb2)⟩
  · rw [decide_eq_false hlong] at HL
    by_cases hmany : 40 < p.length
    · rw [decide_eq_true hmany] at HM
      go_enter Try.func4, Try.ntmps4
      go_wp2_with (fail)
      refine (HL _).out.mono ?_
      rintro e w1 ⟨rfl, hb1⟩
      go_wp2_with (fail)
      refine (HM _).out.mono ?_
      rintro e w2 ⟨rfl, rfl⟩
      go_wp2_with (fail)
      refine (HK _).out.mono ?_
      rintro e w2 ⟨rfl, hb2⟩
      go_wp2_with (fail)
      go_ret
      exact ⟨rfl, bl_call hb0 (bl_call hb1 hb2)⟩
    · rw [decide_eq_false hmany] at HM
      have hlen : l.length ≤ 1000 := by omega
      have hlen' : p.length ≤ 1000 := by omega
      have H1 := fun w1 hr1 hs1 => Lib.hid (Free_c Z A B l p c d w1 hlen hlen' hr1 hs1)
      have H2 := fun w1 hr1 hs1 => Lib.hid (rFree_c Z A B l p c d w1 hlen hlen' hcap' hr1 hs1)
      have H3 := fun w1 hr1 hs1 => Lib.hid (Moves_c Z A B l p c d w1 hlen hlen' hr1 hs1)
      have H4 := fun w1 hr1 hs1 => Lib.hid (rMoves_c Z A B l p c d w1 hlen hlen' hcap' hr1 hs1)
      have HFl := freeG_len Z l p
      have HMl := movesG_len Z l p
      generalize freeG Z l p = F at *
      generalize movesG Z l p = M at *
      generalize placeE Z l p = e3 at *
      clear hlong hmany
      go_enter Try.func4, Try.ntmps4
      go_wp2_with (fail)
      refine (HL _).out.mono ?_
      rintro e w1 ⟨rfl, hb1⟩
      go_wp2_with (fail)
      refine (HM _).out.mono ?_
      rintro e w2 ⟨rfl, rfl⟩
      have y1 := x0.call hb1
      clear c0 c1
      obtain ⟨c0, c1, _⟩ := y1.two
      have hb01 := bl_call hb0 hb1
      go_wp2_with (fail)
      refine (H1 _ (hr.later hb01) (hs.later hb01)).out.mono ?_
      rintro e w2 ⟨A1, c1', rfl, ho1, hb2⟩
      have hb02 := bl_call hb01 hb2
      have y2 := y1.call hb2
      clear c0 c1
      obtain ⟨c0, c1, _⟩ := y2.two
      go_wp2_with (fail)
      refine (H2 _ (hr.later hb02) (hs.later hb02)).out.mono ?_
      rintro e w3 ⟨A2, c2', rfl, ho2, hb3⟩
      have hb03 := bl_call hb02 hb3
      have y3 := y2.call hb3
      clear c0 c1
      obtain ⟨c0, c1, _⟩ := y3.two
      go_wp2_with (fail)
      refine (H3 _ (hr.later hb03) (hs.later hb03)).out.mono ?_
      rintro e w4 ⟨A3, c3', rfl, ho3, hb4⟩
      have hb04 := bl_call hb03 hb4
      have y4 := y3.call hb4
      clear c0 c1
      obtain ⟨c0, c1, _⟩ := y4.two
      go_wp2_with (fail)
      refine (H4 _ (hr.later hb04) (hs.later hb04)).out.mono ?_
      rintro e w5 ⟨A4, c4', rfl, ho4, hb5⟩
      have hb05 := bl_call hb04 hb5
      have hr1 := (own_rd ho1).1.later (bl_call (bl_call hb3 hb4) hb5)
      have hr2 := (own_rd ho2).1.later (bl_call hb4 hb5)
      have hr3 := (own_rd ho3).1.later hb5
      have hr4 := (own_rd ho4).1
      have HSI := Lib.hid (sameInts_c A1 A2 F F c1' c2' w5 (by omega) hr1 hr2)
      have HSM := fun w6 h h' => Lib.hid (sameM_c A3 A4 M M c3' c4' w6 (by omega) h h')
      rw [show decide (F = F) = true by simp] at HSI
      rw [show decide (M = M) = true by simp] at HSM
      clear c0 c1 H1 H2 H3 H4
      go_wp2_with (fail)
      refine HSI.out.mono ?_
      rintro e w6 ⟨rfl, hb6⟩
      go_wp2_with (fail)
      refine (HSM _ (hr3.later hb6) (hr4.later hb6)).out.mono ?_
      rintro e w7 ⟨rfl, hb7⟩
      go_wp2_with (fail)
      refine (HK _).out.mono ?_
      rintro e w8 ⟨rfl, hb8⟩
      go_wp2_with (fail)
      go_ret
      exact ⟨rfl, bl_call (bl_call (bl_call hb05 hb6) hb7) hb8⟩
end Go.Proofs.Ytjgpfnnokdcgoaa
