/- The specification's heats and the gates that are too hot. -/
import Derived.Test.YtlhnbknilcmleaaAct
import Derived.Test.YtlhnbknilcmleaaHeatW
namespace Go.Proofs.Ytlhnbknilcmleaa
open Go.RowKit

set_option maxRecDepth 100000 in
set_option maxHeartbeats 2000000 in
theorem rbefore_c (A : Option Addr) (l : List T3) (c i : Nat) (w : World) (h200 : l.length ≤ 1000) (ha : Acts l) (hi : i < l.length) (hr : Rd w A (cellsT l)) :
    Calls Try.prog 56 #[.slice A l.length c, .int .i64 i] w fun e w' => e = .returned (.int .i64 (heatO (l.take i) (l.getD i t0).2.1)) ∧ Below w.heap.size w w' := by
  have hi' : (i : Int) < (l.length : Int) := by omega
  have HI := Lib.hid hi
  obtain ⟨ion, hion⟩ : ∃ ion, ion = (l.getD i t0).2.1 := ⟨_, rfl⟩
  rw [← hion]
  have HION := Lib.hid hion
  clear hion
  go_enter Try.func56, Try.ntmps56
  go_wp2_with (fail)
  go_loopg [5, 6] i (fun gk sv kv wr => ∃ k : Nat, k + gk = i ∧ kv = .int .i64 (k : Int) ∧ sv = .int .i64 (heatO (l.take k) ion) ∧ Below w.heap.size w wr)
  case atStart => exact ⟨0, by omega, rfl, by simp [heatO], Below.refl _ _⟩
  case round =>
    obtain ⟨k, hk, rfl, rfl, hb⟩ := hrel
    rcases gk with _ | gi
    · obtain rfl : k = i := by omega
      go_wp2_with (fail)
      go_ret
      exact ⟨rfl, hb⟩
    · have hki : (k : Int) < (i : Int) := by omega
      have hkl : k < l.length := by have := HI.out; omega
      have hkl' : (k : Int) < (l.length : Int) := by omega
      have hrr := hr.later hb
      obtain ⟨b, o, rfl, hbl, ⟨c0, c1, c2⟩, d0, d1, d2⟩ := hrr.tri2 hkl HI.out
      rw [← HION.out] at d1
      have HN := Lib.hid (heatO_succ ion hkl)
      have hrg := heatO_range (ha.take k) ion
      rw [List.length_take] at hrg
      have hs0 := hrg.1
      have hs1 : heatO (l.take k) ion ≤ 100000 := by omega
      clear hrg
      have h4 := ha.get hkl
      have hcells : Hid (∀ w1, Below wr.heap.size wr w1 → w1.cell? ⟨b, o + k * 3, none⟩ = some (.int .i64 (l.getD k t0).1) ∧ w1.cell? ⟨b, o + k * 3 + 1, none⟩ = some (.int .i64 (l.getD k t0).2.1) ∧ w1.cell? ⟨b, o + k * 3 + 2, none⟩ = some (.int .i64 (l.getD k t0).2.2)) := fun w1 hw => by
        obtain ⟨b', o', he, h⟩ := hrr.tris hkl
        injection he with he
        injection he with e1 e2
        subst e1 e2
        exact h w1 hw
      generalize l.getD k t0 = g at *
      generalize heatO (l.take k) ion = s at *
      obtain ⟨gk, gi', gh⟩ := g
      obtain ⟨p0, p1, p2, p3, p4, p5, _⟩ := h4
      simp only [] at c0 c1 c2 p0 p1 p2 p3 p4 p5
      simp only at hcells
      have hsum : wrap64 (s + gh) = s + gh := IntWalk.wrap64_in _ (by omega)
      by_cases he : gi' = ion
      · subst he
        go_wp2_with (fail)
        go_quiet (fail)
        generalize hwd : wr.drewN _ = wd
        have hbd : Below wr.heap.size wr wd := by rw [← hwd]; exact below_drewN (Below.refl _ _) _
        obtain ⟨x0, x1, x2⟩ := hcells.out wd hbd
        clear hwd
        by_cases h2 : gk = 2
        · subst h2
          have HE : Hid (heatO (l.take (k + 1)) gi' = 0) := by show _ = _; rw [HN.out, hstep, if_pos rfl, if_pos rfl]
          go_wp2_with (fail)
          go_roundg gi
          case rel => exact ⟨k + 1, by omega, by go_num, by rw [HE.out], bl_call hb hbd⟩
          case measure => omega
        · have HE : Hid (heatO (l.take (k + 1)) gi' = s + gh) := by show _ = _; rw [HN.out, hstep, if_pos rfl, if_neg h2]
          have q2 : (gk == 2) = false := by simpa using h2
          go_wp2_with (fail)
          go_roundg gi
          case rel => exact ⟨k + 1, by omega, by go_num, by rw [HE.out], bl_call hb hbd⟩
          case measure => omega
      · have HE : Hid (heatO (l.take (k + 1)) ion = s) := by show _ = _; rw [HN.out, hstep, if_neg he]
        have q2 : (gi' == ion) = false := by simpa using he
        go_wp2_with (fail)
        go_quiet (fail)
        go_wp2_with (fail)
        go_roundg gi
        case rel => exact ⟨k + 1, by omega, by go_num, by rw [HE.out], below_drewN hb _⟩
        case measure => omega

def OutL (l : List Int) (w : World) (e : Ending) (w' : World) : Prop :=
  ∃ A' c', e = .returned (.slice A' l.length c') ∧ w'.ownsRow w.heap.size 3 1 (.slice A' l.length c') l.length (ints l) ∧ Below w.heap.size w w'
set_option maxRecDepth 100000 in
set_option maxHeartbeats 2000000 in
theorem rhot_c (A : Option Addr) (l : List T3) (c : Nat) (lim : Int) (w : World) (h200 : l.length ≤ 1000) (ha : Acts l) (hr : Rd w A (cellsT l)) :
    Calls Try.prog 64 #[.slice A l.length c, .int .i64 lim] w (OutL (hotL lim l) w) := by
  have HL := hotTo_len lim l
  go_enter Try.func64, Try.ntmps64
  go_wp2_with (fail)
  go_loopg [5, 6] l.length (fun gk v iv wr => ∃ k : Nat, k + gk = l.length ∧ iv = .int .i64 (k : Int) ∧ wr.ownsRow w.heap.size 3 1 v (hotTo lim l k).length (ints (hotTo lim l k)) ∧ Below w.heap.size w wr)
  case atStart => exact ⟨0, by omega, rfl, World.ownsRow_nil _ _ _ _, Below.refl _ _⟩
  case round =>
    obtain ⟨k, hk, rfl, hown, hb⟩ := hrel
    rcases gk with _ | gi
    · obtain rfl : k = l.length := by omega
      obtain ⟨A', c', rfl⟩ := own_form hown
      go_wp2_with (fail)
      go_ret
      exact ⟨A', c', rfl, hown, hb⟩
    · have hlt : k < l.length := by omega
      have hlt' : (k : Int) < (l.length : Int) := by omega
      have hrr := hr.later hb
      have HB := fun w1 h => Lib.hid (rbefore_c A l c k w1 h200 ha hlt h)
      obtain ⟨b, o, rfl, hbl, c0, c1, c2⟩ := hrr.tri hlt
      have HN : Hid (hotTo lim l (k + 1) = if (l.getD k t0).1 == 1 && decide (lim < heatO (l.take k) (l.getD k t0).2.1) then hotTo lim l k ++ [(k : Int)] else hotTo lim l k) := rfl
      have hfl := HL k
      generalize heatO (l.take k) (l.getD k t0).2.1 = hh at *
      generalize l.getD k t0 = g at c0 c1 c2 HN
      generalize hotTo lim l k = L at hown HN hfl
      obtain ⟨gk, gi', gh⟩ := g
      simp only [] at c0 c1 c2 HN
      by_cases h1 : gk = 1
      · subst h1
        by_cases h2 : lim < hh
        · have HX : Hid (hotTo lim l (k + 1) = L ++ [(k : Int)]) := by show _ = _; rw [HN.out, if_pos (by simp [h2])]
          obtain ⟨B, d, rfl⟩ := own_form hown
          go_wp2_with (first | (go_at_call 56; refine (HB _ hrr).out.mono ?_; rintro e w1 ⟨rfl, hb1⟩; obtain ⟨A2, c2', W2, E1, ho2, hb2, _⟩ := append_int w.heap.size w1 _ L (k : Int) (own_call hown hb1) (by omega) (bl_call hb hb1).size; have HE1 := Lib.hid E1; clear E1) | (at_builtin; refine wpList_append_eq rfl _ _ 34 rfl _ _ _ W2 rfl rfl HE1.out ?_))
          have hb3 := (bl_call hb hb1).trans hb2
          go_wp2_with (fail)
          go_roundg gi
          case rel => exact ⟨k + 1, by omega, by go_num, by rw [HX.out]; exact ho2, hb3⟩
          case measure => omega
        · have HX : Hid (hotTo lim l (k + 1) = L) := by show _ = _; rw [HN.out, if_neg (by simp [h2])]
          go_wp2_with (go_at_call 56; refine (HB _ hrr).out.mono ?_; rintro e w1 ⟨rfl, hb1⟩)
          go_roundg gi
          case rel => exact ⟨k + 1, by omega, by go_num, by rw [HX.out]; exact own_call hown hb1, bl_call hb hb1⟩
          case measure => omega
      · have HX : Hid (hotTo lim l (k + 1) = L) := by show _ = _; rw [HN.out, if_neg (by simp [h1])]
        have q1 : (gk == 1) = false := by simpa using h1
        go_wp2_with (fail)
        go_roundg gi
        case rel => exact ⟨k + 1, by omega, by go_num, by rw [HX.out]; exact hown, hb⟩
        case measure => omega
end Go.Proofs.Ytlhnbknilcmleaa
