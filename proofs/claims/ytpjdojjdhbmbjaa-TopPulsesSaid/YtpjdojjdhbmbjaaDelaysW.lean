/- The walk of the statement on pulses with segments in front. -/
import Derived.Test.YtpjdojjdhbmbjaaDelay
import Derived.Test.YtpjdojjdhbmbjaaRev
import Derived.Test.YtpjdojjdhbmbjaaKnown
import Derived.Test.YtpjdojjdhbmbjaaCmp
namespace Go.Proofs.Ytpjdojjdhbmbjaa
open Go.RowKit

theorem way_add (m : Int) (k : Nat) : ∀ n, wayZ m (n + k) = tN m n (wayZ m k)
  | 0 => by rw [Nat.zero_add]; rfl
  | n + 1 => by rw [show n + 1 + k = (n + k) + 1 by omega, wayZ, way_add m k n]; rfl
theorem tN_zero (m : Int) : ∀ n, tN m n (0, 0) = (0, 0)
  | 0 => rfl
  | n + 1 => by rw [tN, tN_zero m n, turn_zero]
theorem cross_tN (m : Int) (a b : Int × Int) : ∀ n, crossZ (tN m n a) (tN m n b) = crossZ a b
  | 0 => rfl
  | n + 1 => by rw [tN, tN, cross_turn, cross_tN m a b n]
theorem z_at (n : Nat) (p : List Int) (k : Nat) : (sameRow n 0 ++ p).getD (n + k) 0 = p.getD k 0 := by
  simp only [sameRow, List.getD_eq_getElem?_getD, List.getElem?_append, List.length_replicate]
  rw [if_neg (by omega), Nat.add_sub_cancel_left]
theorem z_first (n : Nat) (p : List Int) (j : Nat) (h : j < n) : (sameRow n 0 ++ p).getD j 0 = 0 := by
  simp [sameRow, List.getElem?_append, h]
theorem x_first (m : Int) (n : Nat) (p : List Int) : ∀ j, j ≤ n → xZ m (sameRow n 0 ++ p) j = (0, 0) ∧ aZ m (sameRow n 0 ++ p) j = 0
  | 0, _ => ⟨rfl, rfl⟩
  | j + 1, h => by
    obtain ⟨h1, h2⟩ := x_first m n p j (by omega)
    have hs : sZ m (sameRow n 0 ++ p) j = (0, 0) := by rw [sZ, z_first n p j (by omega)]; simp [timesZ]
    refine ⟨?_, ?_⟩
    · rw [xZ, h1, hs]; rfl
    · rw [aZ, h1, h2, hs]; simp [crossZ]
theorem x_delay (m : Int) (n : Nat) (p : List Int) : ∀ k, xZ m (sameRow n 0 ++ p) (n + k) = tN m n (xZ m p k) ∧ aZ m (sameRow n 0 ++ p) (n + k) = aZ m p k
  | 0 => by
    obtain ⟨h1, h2⟩ := x_first m n p n (Nat.le_refl _)
    refine ⟨?_, ?_⟩
    · rw [Nat.add_zero, h1, xZ, tN_zero]
    · rw [Nat.add_zero, h2]; rfl
  | k + 1 => by
    obtain ⟨h1, h2⟩ := x_delay m n p k
    have hs : sZ m (sameRow n 0 ++ p) (n + k) = tN m n (sZ m p k) := by rw [sZ, z_at, way_add, sZ, tN_tm]
    refine ⟨?_, ?_⟩
    · rw [← Nat.add_assoc, xZ, h1, hs, xZ, tN_plus]
    · rw [← Nat.add_assoc, aZ, h1, h2, hs, cross_tN]; rfl
theorem de_at {p : List Int} {k : Int} (h : deE p k = 0) : validE p = 0 ∧ ∃ n : Nat, k = n ∧ n + p.length ≤ 12 := by
  unfold deE at h
  by_cases hv : validE p = 0
  · rw [if_pos hv] at h
    by_cases hi : inB k 0 12 = true
    · rw [if_pos hi] at h
      obtain ⟨n, rfl⟩ := Int.eq_ofNat_of_zero_le (inB_z.1 hi).1
      rw [Int.toNat_natCast] at h
      by_cases hl : 12 < n + p.length
      · rw [if_pos hl] at h; cases h
      · exact ⟨hv, n, rfl, by omega⟩
    · rw [if_neg hi] at h; cases h
  · rw [if_neg hv] at h; exact absurd h hv
theorem delay_facts {p : List Int} {k : Int} (m : Int) (h : deE p k = 0) :
    validE (deL p k) = validE p ∧ modesG (deL p k) (closedB (deL p k)) = modesG p (closedB p) ∧ inE (deL p k) m = inE p m ∧ areaG (deL p k) m = areaG p m := by
  obtain ⟨hv, n, rfl, hl⟩ := de_at h
  have hL : deL p (n : Int) = sameRow n 0 ++ p := by rw [deL, if_pos h, Int.toNat_natCast]
  rw [hL]
  have hlen : (sameRow n 0 ++ p).length = n + p.length := by simp [sameRow]
  have hvl : validE (sameRow n 0 ++ p) = 0 := by
    have hf : forces p = true := by
      unfold validE at hv
      rw [if_pos (by omega)] at hv
      by_cases hf : forces p = true
      · exact hf
      · rw [if_neg hf] at hv; cases hv
    rw [validE, if_pos (by omega), if_pos]
    unfold forces at hf ⊢
    rw [List.all_append, hf, Bool.and_true, List.all_eq_true]
    intro x hx
    have : x = 0 := List.eq_of_mem_replicate hx
    subst this; decide
  have hi : inE (sameRow n 0 ++ p) m = inE p m := by rw [inE, inE, if_pos hv, if_pos hvl]
  refine ⟨by rw [hvl, hv], ?_, hi, ?_⟩
  · rw [modesG, modesG, if_pos hv, if_pos hvl]
    congr 1
    funext j
    rw [closedB_z, closedB_z, hlen, (x_delay j n p p.length).1, Bool.eq_iff_iff, beq_iff_eq, beq_iff_eq, tN_z]
  · rw [areaG, areaG, hi, area_z, area_z, hlen, (x_delay m n p p.length).2]
theorem deL_len (p : List Int) (k : Int) : (deL p k).length ≤ 12 := by
  unfold deL
  by_cases h : deE p k = 0
  · obtain ⟨_, n, rfl, hl⟩ := de_at h
    rw [if_pos h]; simp [sameRow]; omega
  · rw [if_neg h]; exact Nat.zero_le _
theorem modesG_4 (p : List Int) (B : Int → Bool) : (modesG p B).length ≤ 4 := by
  unfold modesG
  split
  · exact modesF_len B 4
  · exact Nat.zero_le _

set_option maxRecDepth 100000 in
set_option maxHeartbeats 800000 in
theorem pulseDelays_walk (A : Option Addr) (p : List Int) (cap : Nat) (s m : Int) (w : World) (hr : Rd w A (ints p)) (_hs : (Lit.int .i64 s).wf = true) (_hm : (Lit.int .i64 m).wf = true) :
    Calls Try.prog 9 #[.slice A p.length cap, .int .i64 s, .int .i64 m] w fun e w' => e = .returned (.bool true) ∧ Below w.heap.size w w' := by
  by_cases h1 : 100 < p.length
  · have h1' : decide (100 < p.length) = true := by simpa using h1
    go_enter Try.func9, Try.ntmps9
    go_wp2_with (first | (go_at_call 17; refine (long_c _ _ _ _).mono ?_; rintro e w' ⟨rfl, rfl⟩) | (go_at_call 18; refine (known_c _).mono ?_; rintro e w' ⟨rfl, hb1⟩))
    go_ret
    exact ⟨rfl, hb1⟩
  · have h1' : decide (100 < p.length) = false := by simpa using h1
    have HL := deL_len p s
    have HF := Lib.hid (@delay_facts p s m)
    have HV0 := Lib.hid (fun h => (@de_at p s h).1)
    have HA := Lib.hid (delay_c A p cap s w hr)
    have HB := fun w1 (hb : Below w.heap.size w w1) => Lib.hid (rdelay_c A p cap s w1 (hr.later hb))
    unfold TwoOut at HA HB
    have HY := fun w1 (hb : Below w.heap.size w w1) => Lib.hid (closed_c A p cap w1 (by omega) (hr.later hb))
    have HN := fun w1 (hb : Below w.heap.size w w1) => Lib.hid (area_c A p cap m w1 (by omega) (hr.later hb))
    have hYl := modesG_4 p (closedB p)
    have hlen' : p.length ≤ 100 := by omega
    generalize deL p s = L at HL HF HA HB
    generalize deE p s = E at HF HA HB HV0
    have HX := fun A1 c1 w1 (h : Rd w1 A1 (ints L)) => Lib.hid (closed_c A1 L c1 w1 (by omega) h)
    have HM := fun A1 c1 w1 (h : Rd w1 A1 (ints L)) => Lib.hid (area_c A1 L c1 m w1 (by omega) h)
    generalize validE p = V at HF HV0 HY
    generalize modesG L (closedB L) = X at HF HX
    generalize modesG p (closedB p) = Y at HF HY hYl
    generalize areaG p m = n at HF HN
    generalize areaG L m = n' at HF HM
    generalize inE L m = I' at HF HM
    generalize validE L = V' at HF HX
    generalize inE p m = I at HF HN
    go_enter Try.func9, Try.ntmps9
    go_wp2_with (go_at_call 17; refine (long_c _ _ _ _).mono ?_; rintro e w' ⟨rfl, rfl⟩)
    refine HA.out.mono ?_
    rintro e w1 ⟨A1, c1, rfl, hr1, hb1⟩
    go_wp2_with (fail)
    refine (HB w1 hb1).out.mono ?_
    rintro e w2 ⟨A2, c2, rfl, hr2, hb2⟩
    have hw2 := bl_call hb1 hb2
    replace hr1 := hr1.later hb2
    clear HA HB
    go_wp2_with (fail)
    refine (sameInts_c A1 A2 L L c1 c2 w2 (by omega) hr1 hr2).mono ?_
    rintro e w3 ⟨rfl, hb3⟩
    have hw3 := bl_call hw2 hb3
    replace hr1 := hr1.later hb3
    clear hr2
    rw [decide_eq_true rfl]
    by_cases hE : (E != 0) = true
    · go_wp2_with (fail)
      refine (known_c _).mono ?_
      rintro e w7 ⟨rfl, hb7⟩
      go_wp2_with (fail)
      go_ret
      exact ⟨rfl, bl_call hw3 hb7⟩
    · have hE' : (E != 0) = false := by simpa using hE
      have hE0 : E = 0 := by simpa using hE'
      have hV0 := HV0.out hE0
      obtain ⟨rfl, rfl, rfl, rfl⟩ := HF.out hE0
      subst hE0
      subst hV0
      clear hE hE' HF HV0
      go_wp2_with (fail)
      refine (HX A1 c1 w3 hr1).out.mono ?_
      rintro e w5 ⟨A3, c3, rfl, hr3, hb5⟩
      have hw5 := bl_call hw3 hb5
      replace hr1 := hr1.later hb5
      clear HX
      go_wp2_with (fail)
      refine (HY w5 hw5).out.mono ?_
      rintro e w6 ⟨A4, c4, rfl, hr4, hb6⟩
      have hw6 := bl_call hw5 hb6
      replace hr1 := hr1.later hb6
      replace hr3 := hr3.later hb6
      clear HY
      go_wp2_with (fail)
      refine (HM A1 c1 w6 hr1).out.mono ?_
      rintro e w7 ⟨rfl, hb7⟩
      have hw7 := bl_call hw6 hb7
      replace hr3 := hr3.later hb7
      replace hr4 := hr4.later hb7
      clear HM hr1
      go_wp2_with (fail)
      refine (HN w7 hw7).out.mono ?_
      rintro e w8 ⟨rfl, hb8⟩
      have hw8 := bl_call hw7 hb8
      replace hr3 := hr3.later hb8
      replace hr4 := hr4.later hb8
      clear HN
      go_wp2_with (fail)
      refine (sameInts_c A3 A4 _ _ c3 c4 w8 (by omega) hr3 hr4).mono ?_
      rintro e w9 ⟨rfl, hb9⟩
      rw [decide_eq_true rfl]
      have hw9 := bl_call hw8 hb9
      go_wp2_with (fail)
      refine (known_c _).mono ?_
      rintro e w11 ⟨rfl, hb11⟩
      go_wp2_with (fail)
      go_ret
      exact ⟨rfl, bl_call hw9 hb11⟩
end Go.Proofs.Ytpjdojjdhbmbjaa
