/- The walk of the statement on all areas of closed pulses. -/
import Derived.Test.YtpjdojjdhbmbjaaAreasC
import Derived.Test.YtpjdojjdhbmbjaaAreasR
import Derived.Test.YtpjdojjdhbmbjaaKnown
namespace Go.Proofs.Ytpjdojjdhbmbjaa
open Go.RowKit

theorem zero_area (l : List Int) (n : Nat) : arF l (List.replicate n 0) = 0 := by
  have h := (x_first (l.getD 0 0) n [] n (Nat.le_refl _)).2
  rw [List.append_nil] at h
  rw [arF, area_z, List.length_replicate, show (List.replicate n (0 : Int)) = sameRow n 0 from rfl, h]; simp [wrap64]
theorem areas_mem {l : List Int} {n f : Int} (h : searchE l n f = 0) (a : Int) : a ∈ areasL l n f ↔ ∃ x ∈ closedL l f.toNat n.toNat, arF l x = a := by
  have hf := searchE_f h
  rw [areasL, if_pos h]
  exact arSet_mem (ar_closed (by omega) (by omega)) a
theorem areas_zero {l : List Int} {n f : Int} (h : searchE l n f = 0) : decide (0 ∈ areasL l n f) = true := by
  rw [decide_eq_true_iff, areas_mem h]
  exact ⟨_, zero_in l f.toNat n.toNat, zero_area l _⟩
theorem areasL_len (l : List Int) (n f : Int) : (areasL l n f).length ≤ 2001 := by
  unfold areasL
  split
  · unfold arSet; rw [List.length_map]; exact Nat.le_trans (List.length_filter_le _ _) (by simp)
  · exact Nat.zero_le _

set_option maxRecDepth 100000 in
set_option maxHeartbeats 1000000 in
theorem pulseSearches_walk (A : Option Addr) (l : List Int) (cap : Nat) (n f : Int) (w : World) (hr : Rd w A (ints l)) (_hn : (Lit.int .i64 n).wf = true) (_hf : (Lit.int .i64 f).wf = true) :
    Calls Try.prog 13 #[.slice A l.length cap, .agg #[.int .i64 n, .int .i64 f]] w fun e w' => e = .returned (.bool true) ∧ Below w.heap.size w w' := by
  have x0 := Bx.new w 50 #[.int .i64 n, .int .i64 f]
  have hb0 : Below w.heap.size w (w.alloc (.cells #[.int .i64 n, .int .i64 f] 50)) := bl_alloc (Below.refl _ _) _
  by_cases h1 : 100 < l.length
  · have h1' : decide (100 < l.length) = true := by simpa using h1
    go_enter Try.func13, Try.ntmps13
    go_wp2_with (first | (go_at_call 17; refine (long_c _ _ _ _).mono ?_; rintro e w' ⟨rfl, rfl⟩) | (go_at_call 18; refine (known_c _).mono ?_; rintro e w' ⟨rfl, hb1⟩))
    go_ret
    exact ⟨rfl, bl_call hb0 hb1⟩
  · have h1' : decide (100 < l.length) = false := by simpa using h1
    have HA := fun w1 (hb : Below w.heap.size w w1) => Lib.hid (areas_c A l cap n f w1 (by omega) (hr.later hb))
    have HB := fun w1 (hb : Below w.heap.size w w1) => Lib.hid (rareas_c A l cap n f w1 (by omega) (hr.later hb))
    unfold AreasOut at HA HB
    have HZ := Lib.hid (@areas_zero l n f)
    have hL := areasL_len l n f
    generalize areasL l n f = L at HA HB HZ hL
    generalize searchE l n f = E at HA HB HZ
    go_enter Try.func13, Try.ntmps13
    go_wp2_with (go_at_call 17; refine (long_c _ _ _ _).mono ?_; rintro e w' ⟨rfl, rfl⟩)
    refine (HA _ hb0).out.mono ?_
    rintro e w1 ⟨A1, c1, rfl, hr1, hb1⟩
    obtain ⟨i1, i2, i3, i4⟩ := (x0.call hb1).two
    have hw1 := bl_call hb0 hb1
    replace x0 := x0.call hb1
    go_wp2_with (fail)
    refine (HB w1 hw1).out.mono ?_
    rintro e w2 ⟨A2, c2, rfl, hr2, hb2⟩
    have hw2 := bl_call hw1 hb2
    replace hr1 := hr1.later hb2
    clear HA HB i1 i2 i3 i4 x0
    go_wp2_with (fail)
    refine (sameInts_c A1 A2 L L c1 c2 w2 (by omega) hr1 hr2).mono ?_
    rintro e w3 ⟨rfl, hb3⟩
    have hw3 := bl_call hw2 hb3
    replace hr1 := hr1.later hb3
    clear hr2
    rw [decide_eq_true rfl]
    by_cases hE : (E != 0) = true
    · go_wp2_with (fail)
      refine (known_c _).mono ?_
      rintro e w7 ⟨rfl, hb7⟩
      go_wp2_with (fail)
      go_ret
      exact ⟨rfl, bl_call hw3 hb7⟩
    · have hE' : (E != 0) = false := by simpa using hE
      have hz := HZ.out (by simpa using hE')
      clear hE HZ
      have HH := Lib.hid (has_c A1 L c1 0 w3 (by omega) hr1)
      rw [hz] at HH
      clear hz
      go_wp2_with (fail)
      refine HH.out.mono ?_
      rintro e w4 ⟨rfl, rfl⟩
      go_wp2_with (fail)
      refine (known_c _).mono ?_
      rintro e w7 ⟨rfl, hb7⟩
      go_wp2_with (fail)
      go_ret
      exact ⟨rfl, bl_call hw3 hb7⟩
end Go.Proofs.Ytpjdojjdhbmbjaa
