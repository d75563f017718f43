/- One pulse behind another one. -/
import Derived.Test.YtpjdojjdhbmbjaaCat
import Derived.Test.YtpjdojjdhbmbjaaAdd
namespace Go.Proofs.Ytpjdojjdhbmbjaa
open Go.RowKit

theorem inB_z {n lo hi : Int} : inB n lo hi = true ↔ lo ≤ n ∧ n ≤ hi := by simp [inB]
/-- What two right pulses give. -/
def catE (p q : List Int) : Int := if 12 < p.length + q.length then 3 else 0
def catL (p q : List Int) : List Int := if 12 < p.length + q.length then [] else p ++ q
def joE (p q : List Int) : Int := if bothE p q = 0 then catE p q else bothE p q
def joL (p q : List Int) : List Int := if bothE p q = 0 then catL p q else []
def TwoOut (e0 : Int) (l : List Int) (w : World) (e : Ending) (w' : World) : Prop := ∃ A' c, e = .returned (.tuple #[.slice A' l.length c, .int .i64 e0]) ∧ Rd w' A' (ints l) ∧ Below w.heap.size w w'

set_option maxHeartbeats 400000 in
theorem joined_c (A B : Option Addr) (p q : List Int) (cap cap' : Nat) (w : World) (hp : p.length ≤ 12) (hq : q.length ≤ 12) (hr : Rd w A (ints p)) (hs : Rd w B (ints q)) :
    Calls Try.prog 72 #[.slice A p.length cap, .slice B q.length cap'] w (TwoOut (catE p q) (catL p q) w) := by
  by_cases h : 12 < p.length + q.length
  · have h' : (12 : Int) < (p.length : Int) + (q.length : Int) := by omega
    rw [catE, catL, if_pos h, if_pos h]
    go_enter Try.func72, Try.ntmps72
    go_wp2_with (fail)
    go_ret2
    exact ⟨none, 0, rfl, Rd.nil _ _, Below.refl _ _⟩
  · have h' : ¬ (12 : Int) < (p.length : Int) + (q.length : Int) := by omega
    rw [catE, catL, if_neg h, if_neg h]
    have ha := bl_alloc (Below.refl w.heap.size w) (.cells #[.slice A p.length cap, .slice B q.length cap'] 22)
    have HC := Lib.hid (concat_c A B p q cap cap' w.heap.size 2 _ hp hq (Bx.new w _ _) (hr.later ha) (hs.later ha))
    go_enter Try.func72, Try.ntmps72
    go_wp2_with (fail)
    refine HC.out.mono ?_
    rintro e w1 ⟨A', c', rfl, hown, hb⟩
    go_wp2_with (fail)
    go_ret2
    exact ⟨A', c', by rw [List.length_append]; rfl, (own_rd hown).1, bl_call ha hb⟩

set_option maxHeartbeats 400000 in
theorem join_c (A B : Option Addr) (p q : List Int) (cap cap' : Nat) (w : World) (hr : Rd w A (ints p)) (hs : Rd w B (ints q)) :
    Calls Try.prog 45 #[.slice A p.length cap, .slice B q.length cap'] w (TwoOut (joE p q) (joL p q) w) := by
  have HV := Lib.hid (validateBoth_c A B p q cap cap' w hr hs)
  by_cases hv : bothE p q = 0
  · have HJ := Lib.hid (joined_c A B p q cap cap' w (validE_len (bothE_zero hv).1) (validE_len (bothE_zero hv).2) hr hs)
    rw [joE, joL, if_pos hv, if_pos hv]
    rw [hv] at HV
    clear hv
    unfold TwoOut at HJ
    go_enter Try.func45, Try.ntmps45
    go_wp2_with (fail)
    refine HV.out.mono ?_
    rintro e w' ⟨rfl, rfl⟩
    go_wp2_with (fail)
    refine HJ.out.mono ?_
    rintro e w1 ⟨A', c', rfl, hrd, hb⟩
    go_wp2_with (fail)
    go_ret2
    exact ⟨A', c', rfl, hrd, hb⟩
  · have hv' : (bothE p q != 0) = true := by simpa using hv
    rw [joE, joL, if_neg hv, if_neg hv]
    clear hv
    go_enter Try.func45, Try.ntmps45
    go_wp2_with (fail)
    refine HV.out.mono ?_
    rintro e w' ⟨rfl, rfl⟩
    go_wp2_with (fail)
    go_ret2
    exact ⟨none, 0, rfl, Rd.nil _ _, Below.refl _ _⟩

set_option maxRecDepth 100000 in
set_option maxHeartbeats 800000 in
theorem rjoin_c (A B : Option Addr) (p q : List Int) (cap cap' : Nat) (w : World) (hr : Rd w A (ints p)) (hs : Rd w B (ints q)) :
    Calls Try.prog 46 #[.slice A p.length cap, .slice B q.length cap'] w (TwoOut (joE p q) (joL p q) w) := by
  obtain ⟨i0, hi, hz0, hz1, hz2⟩ := info_parts int_info
  have HV := Lib.hid (rboth_c A B p q cap cap' w hr hs)
  by_cases hv : bothE p q = 0
  · have hp := validE_len (bothE_zero hv).1
    have hq := validE_len (bothE_zero hv).2
    rw [joE, joL, if_pos hv, if_pos hv]
    rw [hv] at HV
    clear hv
    by_cases h : 12 < p.length + q.length
    · have h' : (12 : Int) < (p.length : Int) + (q.length : Int) := by omega
      rw [catE, catL, if_pos h, if_pos h]
      go_enter Try.func46, Try.ntmps46
      go_wp2_with (fail)
      refine HV.out.mono ?_
      rintro e w' ⟨rfl, rfl⟩
      go_wp2_with (fail)
      go_ret2
      exact ⟨none, 0, rfl, Rd.nil _ _, Below.refl _ _⟩
    · have h' : ¬ (12 : Int) < (p.length : Int) + (q.length : Int) := by omega
      rw [catE, catL, if_neg h, if_neg h]
      have ha0 : Below w.heap.size w (w.alloc (.cells #[] 3)) := bl_alloc (Below.refl _ _) _
      have hr0 := hr.later ha0
      go_enter Try.func46, Try.ntmps46
      go_wp2_with (fail)
      refine HV.out.mono ?_
      rintro e w' ⟨rfl, rfl⟩
      go_wp2_with (at_builtin; refine wpList_append_any rfl _ _ 22 rfl w.heap.size 3 i0 _ 8 Try.underlying22 hi hz0 hz1 hz2 rfl _ 0 [] rfl (World.ownsRow_made (e := 3) (size := 1) w #[] 0 (Nat.le_refl _) (by decide) rfl) A p cap rfl hr0 (by unfold maxLen; omega) (by omega) (by simp) ?_)
      intro A1 c1 w1 hown1 hg1
      have hb1 : Below w.heap.size w w1 := ha0.trans (grown_below (World.ownsRow_made (e := 3) (size := 1) w #[] 0 (Nat.le_refl _) (by decide) rfl) hg1 (by simp))
      have hs1 := hs.later hb1
      clear hg1 hr0 ha0
      go_wp2_with (at_builtin; refine wpList_append_any rfl _ _ 22 rfl w.heap.size 3 i0 _ 8 Try.underlying22 hi hz0 hz1 hz2 rfl _ p.length (ints p) rfl hown1 B q cap' rfl hs1 (by unfold maxLen; omega) (by omega) hb1.size ?_)
      intro A2 c2 w2 hown2 hg2
      have hb2 : Below w.heap.size w w2 := hb1.trans (grown_below hown1 hg2 hb1.size)
      have hrd2 : Rd w2 A2 (ints (p ++ q)) := by
        rw [show ints (p ++ q) = ints p ++ ints q by simp [ints]]; exact (own_rd hown2).1
      clear hown1 hown2 hg2
      go_wp2_with (fail)
      go_ret2
      exact ⟨A2, c2, by rw [List.length_append]; rfl, hrd2, hb2⟩
  · have hv' : (bothE p q != 0) = true := by simpa using hv
    rw [joE, joL, if_neg hv, if_neg hv]
    clear hv
    go_enter Try.func46, Try.ntmps46
    go_wp2_with (fail)
    refine HV.out.mono ?_
    rintro e w' ⟨rfl, rfl⟩
    go_wp2_with (fail)
    go_ret2
    exact ⟨none, 0, rfl, Rd.nil _ _, Below.refl _ _⟩

def deE (p : List Int) (k : Int) : Int := if validE p = 0 then (if inB k 0 12 then (if 12 < k.toNat + p.length then 3 else 0) else 1) else validE p
def deL (p : List Int) (k : Int) : List Int := if deE p k = 0 then sameRow k.toNat 0 ++ p else []

set_option maxRecDepth 100000 in
set_option maxHeartbeats 800000 in
theorem delay_c (A : Option Addr) (p : List Int) (cap : Nat) (k : Int) (w : World) (hr : Rd w A (ints p)) :
    Calls Try.prog 43 #[.slice A p.length cap, .int .i64 k] w (TwoOut (deE p k) (deL p k) w) := by
  have HV := Lib.hid (validate_c A p cap w hr)
  by_cases hv : validE p = 0
  · have hlen := validE_len hv
    by_cases hk : 0 ≤ k ∧ k ≤ 12
    · obtain ⟨n, rfl⟩ := Int.eq_ofNat_of_zero_le hk.1
      obtain ⟨cs, hmk, hcs⟩ := make_ints n (by omega) w
      have hb0 := bl_alloc (Below.refl w.heap.size w) (.cells cs 3)
      have hrow : Row (w.alloc (.cells cs 3)) w.heap.size (sameRow n 0) := by rw [hcs]; exact Bx.new w _ _
      have hl : (sameRow n 0).length = n := by simp [sameRow]
      have HJ := joined_c (some ⟨w.heap.size, 0, none⟩) A (sameRow n 0) p n cap (w.alloc (.cells cs 3)) (by omega) hlen hrow.rd (hr.later hb0)
      rw [hl] at HJ
      have hin : inB (n : Int) 0 12 = true := inB_z.2 hk
      have hE : deE p (n : Int) = catE (sameRow n 0) p := by rw [deE, if_pos hv, if_pos hin, catE, hl, Int.toNat_natCast]
      have hL : deL p (n : Int) = catL (sameRow n 0) p := by
        rw [deL, hE, catE, catL, Int.toNat_natCast]
        by_cases h : 12 < (sameRow n 0).length + p.length
        · rw [if_pos h, if_pos h]; rfl
        · rw [if_neg h, if_neg h]; rfl
      rw [hE, hL]
      rw [hv] at HV
      have HJ' := Lib.hid HJ
      clear HJ hv hcs hrow hE hL hin
      unfold TwoOut at HJ'
      obtain ⟨hk1, hk2⟩ := hk
      have hk3 : ¬ (n : Int) < 0 := by omega
      have hk4 : ¬ (12 : Int) < (n : Int) := by omega
      go_enter Try.func43, Try.ntmps43
      go_wp2_with (fail)
      refine HV.out.mono ?_
      rintro e w' ⟨rfl, rfl⟩
      go_wp2_with (fail)
      refine HJ'.out.mono ?_
      rintro e w1 ⟨A', c', rfl, hrd, hb⟩
      go_wp2_with (fail)
      go_ret2
      exact ⟨A', c', rfl, hrd, bl_call hb0 hb⟩
    · have hin : inB k 0 12 = false := by
        have := mt inB_z.1 hk
        simpa using this
      have hE : deE p k = 1 := by rw [deE, if_pos hv, hin]; rfl
      have hL : deL p k = [] := by rw [deL, hE]; rfl
      rw [hE, hL]
      rw [hv] at HV
      clear hv hin hE hL
      by_cases h1 : k < 0
      · go_enter Try.func43, Try.ntmps43
        go_wp2_with (fail)
        refine HV.out.mono ?_
        rintro e w' ⟨rfl, rfl⟩
        go_wp2_with (fail)
        go_ret2
        exact ⟨none, 0, rfl, Rd.nil _ _, Below.refl _ _⟩
      · have h2 : (12 : Int) < k := by omega
        go_enter Try.func43, Try.ntmps43
        go_wp2_with (fail)
        refine HV.out.mono ?_
        rintro e w' ⟨rfl, rfl⟩
        go_wp2_with (fail)
        go_ret2
        exact ⟨none, 0, rfl, Rd.nil _ _, Below.refl _ _⟩
  · have hv' : (validE p != 0) = true := by simpa using hv
    have hE : deE p k = validE p := by rw [deE, if_neg hv]
    have hL : deL p k = [] := by rw [deL, hE, if_neg hv]
    rw [hE, hL]
    clear hv hE hL
    go_enter Try.func43, Try.ntmps43
    go_wp2_with (fail)
    refine HV.out.mono ?_
    rintro e w' ⟨rfl, rfl⟩
    go_wp2_with (fail)
    go_ret2
    exact ⟨none, 0, rfl, Rd.nil _ _, Below.refl _ _⟩
end Go.Proofs.Ytpjdojjdhbmbjaa
