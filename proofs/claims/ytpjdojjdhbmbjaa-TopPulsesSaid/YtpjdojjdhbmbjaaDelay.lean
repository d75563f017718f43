/- The document's pulse with segments in front. -/
import Derived.Test.YtpjdojjdhbmbjaaJoin
namespace Go.Proofs.Ytpjdojjdhbmbjaa
open Go.RowKit

theorem own_zeros (n : Nat) (hn : n ≤ 100) (w : World) : (w.alloc (.cells (ints (sameRow n 0)).toArray 3)).ownsRow w.heap.size 3 1 (.slice (some ⟨w.heap.size, 0, none⟩) n n) n (ints (sameRow n 0)) :=
  ⟨by simp [ints, sameRow], .inr ⟨w.heap.size, n, (ints (sameRow n 0)).toArray, rfl, Nat.le_refl _, heap_alloc_new w _, Nat.le_refl _, by unfold maxLen; omega, by simp [ints, sameRow], by simp [ints, sameRow]⟩⟩

set_option maxRecDepth 100000 in
set_option maxHeartbeats 800000 in
theorem rdelay_c (A : Option Addr) (p : List Int) (cap : Nat) (k : Int) (w : World) (hr : Rd w A (ints p)) :
    Calls Try.prog 44 #[.slice A p.length cap, .int .i64 k] w (TwoOut (deE p k) (deL p k) w) := by
  obtain ⟨i0, hi, hz0, hz1, hz2⟩ := info_parts int_info
  have HV := Lib.hid (rvalidate_c A p cap w hr)
  by_cases hv : validE p = 0
  · have hlen := validE_len hv
    by_cases hk : 0 ≤ k ∧ k ≤ 12
    · obtain ⟨n, rfl⟩ := Int.eq_ofNat_of_zero_le hk.1
      have hin : inB (n : Int) 0 12 = true := inB_z.2 hk
      have hl : (sameRow n 0).length = n := by simp [sameRow]
      have hE : deE p (n : Int) = catE (sameRow n 0) p := by rw [deE, if_pos hv, if_pos hin, catE, hl, Int.toNat_natCast]
      have hL : deL p (n : Int) = catL (sameRow n 0) p := by
        rw [deL, hE, catE, catL, Int.toNat_natCast]
        by_cases h : 12 < (sameRow n 0).length + p.length
        · rw [if_pos h, if_pos h]; rfl
        · rw [if_neg h, if_neg h]; rfl
      rw [hE, hL]
      rw [hv] at HV
      clear hv hE hL
      have hn12 : n ≤ 12 := by omega
      by_cases h : 12 < (sameRow n 0).length + p.length
      · have h' : (12 : Int) < (p.length : Int) + (n : Int) := by omega
        rw [catE, catL, if_pos h, if_pos h]
        go_enter Try.func44, Try.ntmps44
        go_wp2_with (fail)
        refine HV.out.mono ?_
        rintro e w' ⟨rfl, rfl⟩
        go_wp2_with (go_at_call 36; refine (within_c _ _ _ _).mono ?_; rintro e w' ⟨rfl, rfl⟩)
        go_ret2
        exact ⟨none, 0, rfl, Rd.nil _ _, Below.refl _ _⟩
      · have h' : ¬ (12 : Int) < (p.length : Int) + (n : Int) := by omega
        rw [catE, catL, if_neg h, if_neg h]
        obtain ⟨cs, hmk, rfl⟩ := make_ints n (by omega) w
        have ha0 := bl_alloc (Below.refl w.heap.size w) (.cells (ints (sameRow n 0)).toArray 3)
        have hr0 := hr.later ha0
        have hown0 := own_zeros n (by omega) w
        have hs0 : w.heap.size ≤ (w.alloc (.cells (ints (sameRow n 0)).toArray 3)).heap.size := by simp
        generalize w.alloc (.cells (ints (sameRow n 0)).toArray 3) = w0 at hmk ha0 hr0 hown0 hs0
        go_enter Try.func44, Try.ntmps44
        go_wp2_with (fail)
        refine HV.out.mono ?_
        rintro e w' ⟨rfl, rfl⟩
        go_wp2_with (first | (go_at_call 36; refine (within_c _ _ _ _).mono ?_; rintro e w' ⟨rfl, rfl⟩) | (at_builtin; refine wpList_append_any rfl _ _ 22 rfl w.heap.size 3 i0 _ 8 Try.underlying22 hi hz0 hz1 hz2 rfl _ n (ints (sameRow n 0)) rfl hown0 A p cap rfl hr0 (by unfold maxLen; omega) (by omega) hs0 ?_))
        intro A2 c2 w2 hown2 hg2
        have hb2 : Below w.heap.size w w2 := ha0.trans (grown_below hown0 hg2 hs0)
        have hrd2 : Rd w2 A2 (ints (sameRow n 0 ++ p)) := by
          rw [show ints (sameRow n 0 ++ p) = ints (sameRow n 0) ++ ints p by simp [ints]]; exact (own_rd hown2).1
        clear hown0 hown2 hg2
        go_wp2_with (fail)
        go_ret2
        exact ⟨A2, c2, by rw [List.length_append, hl]; rfl, hrd2, hb2⟩
    · have hin : inB k 0 12 = false := by
        have := mt inB_z.1 hk
        simpa using this
      have hE : deE p k = 1 := by rw [deE, if_pos hv, hin]; rfl
      have hL : deL p k = [] := by rw [deL, hE]; rfl
      rw [hE, hL]
      rw [hv] at HV
      clear hv hE hL
      go_enter Try.func44, Try.ntmps44
      go_wp2_with (fail)
      refine HV.out.mono ?_
      rintro e w' ⟨rfl, rfl⟩
      go_wp2_with (go_at_call 36; refine (within_c _ _ _ _).mono ?_; rintro e w' ⟨rfl, rfl⟩)
      go_ret2
      exact ⟨none, 0, rfl, Rd.nil _ _, Below.refl _ _⟩
  · have hv' : (validE p != 0) = true := by simpa using hv
    have hE : deE p k = validE p := by rw [deE, if_neg hv]
    have hL : deL p k = [] := by rw [deL, hE, if_neg hv]
    rw [hE, hL]
    clear hv hE hL
    go_enter Try.func44, Try.ntmps44
    go_wp2_with (fail)
    refine HV.out.mono ?_
    rintro e w' ⟨rfl, rfl⟩
    go_wp2_with (fail)
    go_ret2
    exact ⟨none, 0, rfl, Rd.nil _ _, Below.refl _ _⟩
end Go.Proofs.Ytpjdojjdhbmbjaa
