/- The walk of the statement on pulses from the end on. -/
import Derived.Test.YtpjdojjdhbmbjaaBack
import Derived.Test.YtpjdojjdhbmbjaaApp
import Derived.Test.YtpjdojjdhbmbjaaModesO
import Derived.Test.YtpjdojjdhbmbjaaRev
import Derived.Test.YtpjdojjdhbmbjaaKnown
import Derived.Test.YtpjdojjdhbmbjaaCmp
namespace Go.Proofs.Ytpjdojjdhbmbjaa
open Go.RowKit

theorem valid_rev (p : List Int) : validE p.reverse = validE p := by simp [validE, forces]
theorem back_facts {p : List Int} (m : Int) (h : validE p = 0) :
    validE (backL p) = 0 ∧ modesG (backL p) (closedB (backL p)) = modesG p (closedB p) ∧ inE (backL p) m = inE p m ∧ areaG (backL p) m = areaG p m := by
  have hL : backL p = p.reverse := by rw [backL, if_pos h]
  rw [hL]
  have hv : validE p.reverse = 0 := by rw [valid_rev, h]
  have hi : inE p.reverse m = inE p m := by rw [inE, inE, if_pos h, if_pos hv]
  refine ⟨hv, ?_, hi, ?_⟩
  · rw [modesG, modesG, if_pos h, if_pos hv]
    congr 1
    funext k
    exact closed_rev p k
  · rw [areaG, areaG, hi, area_rev]
theorem backL_len (p : List Int) : (backL p).length ≤ p.length := by
  unfold backL
  split
  · simp
  · exact Nat.zero_le _

theorem modesG_len (p : List Int) (B : Int → Bool) : (modesG p B).length ≤ 4 := by
  unfold modesG
  split
  · exact modesF_len B 4
  · exact Nat.zero_le _
/-- A row of one's own, as a block. -/
theorem own_block {w : World} {base n c : Nat} {A : Option Addr} {xs : List Value} (h : w.ownsRow base 3 1 (.slice A n c) n xs) (hn : 0 < n) : ∃ g cur, A = some ⟨g, 0, none⟩ ∧ base ≤ g ∧ g < w.heap.size ∧ n ≤ cur.size ∧ Bx w g 3 cur := by
  rcases h.2 with ⟨hv, hx⟩ | ⟨g, cap, cur, hv, hb, hheap, hle, hm, hsz, hpre⟩
  · injection hv with h1 h2 h3; omega
  · injection hv with h1 h2 h3
    subst h1
    exact ⟨g, cur, rfl, hb, (Array.getElem?_eq_some_iff.1 hheap).1, by omega, hheap⟩

set_option maxRecDepth 100000 in
set_option maxHeartbeats 800000 in
theorem pulseBacks_walk (A : Option Addr) (p : List Int) (cap : Nat) (m : Int) (w : World) (hr : Rd w A (ints p)) (_hm : (Lit.int .i64 m).wf = true) :
    Calls Try.prog 8 #[.slice A p.length cap, .int .i64 m] w fun e w' => e = .returned (.bool true) ∧ Below w.heap.size w w' := by
  obtain ⟨i0, hi, hz0, hz1, hz2⟩ := info_parts int_info
  by_cases h1 : 100 < p.length
  · have h1' : decide (100 < p.length) = true := by simpa using h1
    go_enter Try.func8, Try.ntmps8
    go_wp2_with (first | (go_at_call 17; refine (long_c _ _ _ _).mono ?_; rintro e w' ⟨rfl, rfl⟩) | (go_at_call 18; refine (known_c _).mono ?_; rintro e w' ⟨rfl, hb1⟩))
    go_ret
    exact ⟨rfl, hb1⟩
  · have h1' : decide (100 < p.length) = false := by simpa using h1
    have HL := backL_len p
    have HF := Lib.hid (@back_facts p m)
    have HBk := fun A0 c0 w1 (h : Rd w1 A0 (ints p)) => Lib.hid (back_c A0 p c0 w1 h)
    have HRb := fun w1 (hb : Below w.heap.size w w1) => Lib.hid (rback_c A p cap w1 (hr.later hb))
    unfold BackOut at HBk HRb
    have HY := fun w1 (hb : Below w.heap.size w w1) => Lib.hid (closed_o A p cap w1 (by omega) (hr.later hb))
    have HN := fun w1 (hb : Below w.heap.size w w1) => Lib.hid (area_c A p cap m w1 (by omega) (hr.later hb))
    have hlen' : p.length ≤ 100 := by omega
    have hYl := modesG_len p (closedB p)
    generalize hLL : backL p = L at HL HF HBk HRb
    have HX := fun A1 c1 w1 (h : Rd w1 A1 (ints L)) => Lib.hid (closed_o A1 L c1 w1 (by omega) h)
    have HM := fun A1 c1 w1 (h : Rd w1 A1 (ints L)) => Lib.hid (area_c A1 L c1 m w1 (by omega) h)
    clear hLL
    generalize validE p = E at HF HBk HRb HY
    generalize modesG L (closedB L) = X at HF HX
    generalize modesG p (closedB p) = Y at HF HY hYl
    generalize areaG p m = n at HF HN
    generalize areaG L m = n' at HF HM
    generalize inE L m = I' at HF HM
    generalize validE L = E' at HF HX
    generalize inE p m = I at HF HN
    go_enter Try.func8, Try.ntmps8
    have ha0 : Below w.heap.size w (w.alloc (.cells #[] 3)) := bl_alloc (Below.refl _ _) _
    have hr0 := hr.later ha0
    go_wp2_with (first | (go_at_call 17; refine (long_c _ _ _ _).mono ?_; rintro e w' ⟨rfl, rfl⟩) | (at_builtin; refine wpList_append_rd rfl _ _ 22 rfl w.heap.size 3 i0 _ 8 Try.underlying22 hi hz0 hz1 hz2 rfl w.heap.size 0 0 [] rfl (World.ownsRow_made (e := 3) (size := 1) w #[] 0 (Nat.le_refl _) (by decide) rfl) A p cap rfl hr0 (Nat.le_refl _) (by unfold maxLen; omega) (by omega) (by simp) ?_))
    intro A0 c0 w1 hown hg
    have hb1 : Below w.heap.size w w1 := ha0.trans (grown_below (World.ownsRow_made (e := 3) (size := 1) w #[] 0 (Nat.le_refl _) (by decide) rfl) hg (by simp))
    obtain ⟨hrd0, hA0⟩ := own_rd hown
    clear hown hg ha0 hr0
    go_wp2_with (fail)
    refine (HBk A0 c0 w1 hrd0).out.mono ?_
    rintro e w2 ⟨A1, c1, rfl, hown1, hb2⟩
    have hw2 := bl_call hb1 hb2
    go_wp2_with (fail)
    refine (HRb w2 hw2).out.mono ?_
    rintro e w3 ⟨A2, c2, rfl, hown2, hb3⟩
    have hw3 := bl_call hw2 hb3
    have hr2 := (own_rd hown2).1
    replace hown1 := own_call hown1 hb3
    clear HBk HRb hown2
    go_wp2_with (fail)
    refine (sameInts_c A1 A2 L L c1 c2 w3 (by omega) (own_rd hown1).1 hr2).mono ?_
    rintro e w4 ⟨rfl, hb4⟩
    rw [decide_eq_true rfl]
    have hw4 := bl_call hw3 hb4
    replace hown1 := own_call hown1 hb4
    have hb04 := bl_call (bl_call hb2 hb3) hb4
    have hOB : ∃ g, 0 < L.length → A1 = some ⟨g, 0, none⟩ ∧ w1.heap.size ≤ g ∧ g < w4.heap.size := by
      by_cases h0 : 0 < L.length
      · obtain ⟨g, cur, e1, e2, e3, _, _⟩ := own_block hown1 h0
        exact ⟨g, fun _ => ⟨e1, e2, e3⟩⟩
      · exact ⟨0, fun h => absurd h h0⟩
    clear hr2
    by_cases hE : (E != 0) = true
    · go_wp2_with (fail)
      refine (known_c _).mono ?_
      rintro e w7 ⟨rfl, hb7⟩
      go_wp2_with (fail)
      go_ret
      exact ⟨rfl, bl_call hw4 hb7⟩
    · have hE' : (E != 0) = false := by simpa using hE
      have hE0 : E = 0 := by simpa using hE'
      obtain ⟨hE2, rfl, rfl, rfl⟩ := HF.out hE0
      subst hE0
      subst hE2
      clear hE hE' HF
      go_wp2_with (fail)
      refine (HX A1 c1 w4 (own_rd hown1).1).out.mono ?_
      rintro e w5 ⟨A3, c3, rfl, hown3, hb5⟩
      have hw5 := bl_call hw4 hb5
      replace hown1 := own_call hown1 hb5
      obtain ⟨hrd3, hA3⟩ := own_rd hown3
      clear HX hown3
      go_wp2_with (fail)
      refine (HY w5 hw5).out.mono ?_
      rintro e w6 ⟨A4, c4, rfl, hown4, hb6⟩
      have hw6 := bl_call hw5 hb6
      replace hown1 := own_call hown1 hb6
      replace hrd3 := hrd3.later hb6
      obtain ⟨hrd4, hA4⟩ := own_rd hown4
      clear HY hown4
      go_wp2_with (fail)
      refine (HM A1 c1 w6 (own_rd hown1).1).out.mono ?_
      rintro e w7 ⟨rfl, hb7⟩
      have hw7 := bl_call hw6 hb7
      replace hown1 := own_call hown1 hb7
      replace hrd3 := hrd3.later hb7
      replace hrd4 := hrd4.later hb7
      clear HM
      go_wp2_with (fail)
      refine (HN w7 hw7).out.mono ?_
      rintro e w8 ⟨rfl, hb8⟩
      have hw8 := bl_call hw7 hb8
      replace hown1 := own_call hown1 hb8
      replace hrd3 := hrd3.later hb8
      replace hrd4 := hrd4.later hb8
      have hrd0' := hrd0.later (bl_call (bl_call (bl_call (bl_call hb04 hb5) hb6) hb7) hb8)
      have hrA := hr.later hw8
      have hA0l := fun a e h => hrd0.blk (a := a) e h
      have hAl := fun a e h => hr.blk (a := a) e h
      clear HN
      obtain ⟨g, hg⟩ : ∃ g, 0 < L.length → A1 = some ⟨g, 0, none⟩ ∧ w1.heap.size ≤ g ∧ g < w4.heap.size := hOB
      have hrow : 0 < L.length → ∃ cur, L.length ≤ cur.size ∧ Bx w8 g 3 cur := fun h0 => by
        obtain ⟨g', cur, e1, _, _, e2, e3⟩ := own_block hown1 h0
        obtain ⟨e4, _, _⟩ := hg h0
        rw [e4] at e1
        injection e1 with e1
        injection e1 with e1
        subst e1
        exact ⟨cur, e2, e3⟩
      clear hown1
      go_wp2_with (fail)
      go_loopw [18] (fun i wr => ∃ k : Nat, k ≤ L.length ∧ i = .int .i64 k ∧ (0 < L.length → ∃ cur, L.length ≤ cur.size ∧ Bx wr g 3 cur) ∧ Mod (fun b => b = g ∧ 0 < L.length) w8 wr) (fun i _ => L.length - (intOf i).toNat)
      case atStart => exact ⟨0, Nat.zero_le _, rfl, hrow, Mod.refl _ _⟩
      case round =>
        obtain ⟨k, hk, rfl, hrw, hmod⟩ := hrel
        clear hrow
        by_cases hlt : k < L.length
        · obtain ⟨cur, hcs, hbx⟩ := hrw (by omega)
          obtain ⟨rfl, _, _⟩ := hg (by omega)
          have hkc : k < cur.size := by omega
          have hc : wr.cell? ⟨g, k, none⟩ = some cur[k] := by rw [hbx.cell, Array.getElem?_eq_getElem hkc]
          have hfr := hbx.free k
          have hset := hbx.set k (.int .i64 1000)
          have hm2 := hmod.setCell (i := k) (.inr ⟨rfl, by omega⟩) (.int .i64 1000)
          have hcs2 : L.length ≤ (cur.setIfInBounds k (.int .i64 1000)).size := by simpa using hcs
          generalize cur.setIfInBounds k (.int .i64 1000) = cur2 at hset hcs2
          generalize cur[k] = old at hc
          go_wp2_with (fail)
          go_roundw
          case rel => exact ⟨k + 1, by omega, by go_num, fun _ => ⟨cur2, hcs2, hset⟩, hm2⟩
          case measure => simp [intOf]; omega
        · obtain rfl : k = L.length := by omega
          have hs1 := hb1.size
          have hs5 := hb5.size
          have q3 := hrd3.mod hmod (fun a e _ _ h => by have h1 := hA3 a e; have h2 := hg h.2; have h3 := h.1; omega)
          have q4 := hrd4.mod hmod (fun a e _ _ h => by have h1 := hA4 a e; have h2 := hg h.2; have h3 := h.1; omega)
          have q0 := hrd0'.mod hmod (fun a e hn _ h => by have h1 := hA0l a e hn; have h2 := hg h.2; have h3 := h.1; omega)
          have qA := hrA.mod hmod (fun a e hn _ h => by have h1 := hAl a e hn; have h2 := hg h.2; have h3 := h.1; omega)
          have hbr : Below w.heap.size w wr := hw8.trans (hmod.below hw8.size (fun b hb h => by have h2 := hg h.2; have h3 := h.1; omega))
          clear hrd3 hrd4 hrd0' hrA hmod hrw
          go_wp2_with (fail)
          refine (sameInts_c A3 A4 _ _ c3 c4 wr (by omega) q3 q4).mono ?_
          rintro e w9 ⟨rfl, hb9⟩
          rw [decide_eq_true rfl]
          have hw9 := bl_call hbr hb9
          go_wp2_with (fail)
          refine (sameInts_c A0 A p p c0 cap w9 (by omega) (q0.later hb9) (qA.later hb9)).mono ?_
          rintro e w10 ⟨rfl, hb10⟩
          rw [decide_eq_true rfl]
          have hw10 := bl_call hw9 hb10
          go_wp2_with (fail)
          refine (known_c _).mono ?_
          rintro e w11 ⟨rfl, hb11⟩
          go_wp2_with (fail)
          go_ret
          exact ⟨rfl, bl_call hw10 hb11⟩
end Go.Proofs.Ytpjdojjdhbmbjaa
