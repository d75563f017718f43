/- The specification's: when the jobs are done, and the greatest lateness. -/
import Derived.Test.YtiffgaelndajpaaRurg
namespace Go.Proofs.Ytiffgaelndajpaa
open Go.RowKit

theorem rUrgent_c (A : Option Addr) (l : List T3) (c : Nat) (w : World) (hlen : l.length ≤ 1000) (hr : Rd w A (cellsT l)) :
    Calls Try.prog 26 #[.slice A l.length c] w (OutR (urgG l) (validE l) w) := by
  by_cases hv : validE l = 0
  · have HB : urgG l = urgL l := by rw [urgG, if_pos hv]
    rw [HB, hv]
    exact rUrgent_ok A l c w (validE_ok.1 hv) hr
  · have HV := Lib.hid (rvalidate_c A l c w hlen hr)
    have HB : urgG l = [] := by rw [urgG, if_neg hv]
    have hv' : (validE l != 0) = true := by simpa using hv
    rw [HB]
    clear HB
    generalize validE l = ev at *
    go_enter Try.func26, Try.ntmps26
    go_wp2_with (go_at_call 19; refine HV.out.mono ?_; rintro e w1 ⟨rfl, hb1⟩)
    go_ret2
    exact ⟨none, 0, rfl, Rd.nil _ _, hb1⟩

set_option maxRecDepth 100000 in
set_option maxHeartbeats 4000000 in
theorem rEnds_c (A : Option Addr) (l : List T3) (c : Nat) (w : World) (hlen : l.length ≤ 1000) (hr : Rd w A (cellsT l)) :
    Calls Try.prog 28 #[.slice A l.length c] w (OutR (endsG l) (validE l) w) := by
  have HT := Lib.hid (rUrgent_c A l c w hlen hr)
  by_cases hv : validE l = 0
  · have hl := validE_ok.1 hv
    have h8 := hl.len
    have hN := lenU_le hl
    have HB : endsG l = endsL l := by rw [endsG, if_pos hv]
    have HB2 : urgG l = urgL l := by rw [urgG, if_pos hv]
    rw [HB2, hv] at HT
    rw [HB, hv]
    have HE : Hid (endsL l = endsTo l (lenU l)) := rfl
    have HLT : Hid ((urgL l).length = lenU l) := unitsTo_len _ _
    have HG : Hid (∀ t, t < lenU l → (urgL l).getD t 0 = pickAt l t) := fun t h => unitsTo_get _ _ _ h
    have HPR := Lib.hid (pickAt_range l)
    have HES := Lib.hid (endsTo_succ l)
    have HEL := Lib.hid (endsTo_len l)
    clear hv hl HB HB2
    go_enter Try.func28, Try.ntmps28
    go_wp2_with (fail)
    refine HT.out.mono ?_
    rintro e w1 ⟨A2, c2, rfl, hr2, hb1⟩
    obtain ⟨cs, hmk, hcs⟩ := make_ints l.length (by omega) w1
    have hR1 : Row (w1.alloc (.cells cs 3)) w1.heap.size (endsTo l 0) := by rw [hcs]; exact Bx.new w1 _ _
    have hbw : Below w1.heap.size w1 (w1.alloc (.cells cs 3)) := bl_alloc (Below.refl _ _) _
    have hb2 := bl_call hb1 hbw
    have hr3 := hr2.later hbw
    have hg0 := hb1.size
    have hA2 : ∀ a, A2 = some a → ints (urgL l) ≠ [] → a.block ≠ w1.heap.size := fun a h1 h2 h3 => by have := hr2.blk a h1 h2; omega
    rw [HLT.out]
    clear HT hcs hr2
    go_wp2_with (fail)
    generalize w1.alloc (.cells cs 3) = w2 at *
    generalize w1.heap.size = g0 at *
    clear hmk hbw
    generalize lenU l = N at *
    go_loopg [7] N (fun gk iv wr => ∃ k : Nat, Hid (k + gk = N) ∧ iv = .int .i64 (k : Int) ∧ Row wr g0 (endsTo l k) ∧ Rd wr A2 (ints (urgL l)) ∧ Below w.heap.size w wr)
    case atStart => exact ⟨0, by simp [Hid], rfl, hR1, hr3, hb2⟩
    case round =>
      obtain ⟨k, HK, rfl, hR, hrt, hb⟩ := hrel
      clear hR1 hr3 hb2
      rcases gk with _ | gi
      · obtain rfl : k = N := HK.out
        go_wp2_with (fail)
        go_ret2
        exact ⟨_, l.length, by rw [endsL_len]; rfl, by rw [HE.out]; exact hR.rd, hb⟩
      · have hkN : k < N := by have := HK.out; omega
        have hkN' : (k : Int) < (N : Int) := by omega
        obtain ⟨b, o, hbe, hbl2, hcc⟩ := hrt.at_ (k := k) (by rw [ints_length, HLT.out]; exact hkN)
        have hbg : b ≠ g0 := hA2 _ hbe (by intro e; have := congrArg List.length e; rw [ints_length, HLT.out] at this; simp at this; omega)
        subst hbe
        have hck := hcc k _ (ints_get (by rw [HLT.out]; exact hkN))
        rw [HG.out k hkN] at hck
        have hf := HPR.out k
        have HS := Lib.hid (HES.out k)
        have HLK := Lib.hid (HEL.out k)
        clear hcc
        generalize pickAt l k = f at *
        obtain ⟨hf1, hf2⟩ := hf
        by_cases hfm : f = -1
        · subst hfm
          have HS2 : Hid (endsTo l (k + 1) = endsTo l k) := by show _ = _; rw [HS.out]; rfl
          go_wp2_with (fail)
          go_roundg gi
          case rel => exact ⟨k + 1, by have := HK.out; show _ = _; omega, by go_num, by rw [HS2.out]; exact hR, hrt, hb⟩
          case measure => omega
        · obtain ⟨i, rfl⟩ := Int.eq_ofNat_of_zero_le (show 0 ≤ f by omega)
          have hil : i < l.length := by omega
          have hil' : (i : Int) < (l.length : Int) := by omega
          have HS2 : Hid (endsTo l (k + 1) = (endsTo l k).set i ((k : Int) + 1)) := by show _ = _; rw [HS.out, endStep, if_neg (by omega), Int.toNat_natCast]
          have y0 := hR.get (k := i) (by rw [HLK.out]; exact hil)
          have y1 := hR.free i
          have hset := hR.set i ((k : Int) + 1)
          rw [← HS2.out] at hset
          have hkb : (k : Int) ≤ 540 := by omega
          have hbs := bl_set hb (g := g0) (i := i) hg0 (.int .i64 ((k : Int) + 1))
          have HRT : Hid (Rd (wr.setCell ⟨g0, i, none⟩ (.int .i64 ((k : Int) + 1))) (some ⟨b, o, none⟩) (ints (urgL l))) :=
            hrt.mod ((Mod.refl (fun q => q = g0) wr).setCell (.inr rfl) _) (fun a e1 _ _ h => by injection e1 with e1; rw [← e1] at h; exact hbg h)
          clear hf2 hfm
          go_wp2_with (fail)
          go_roundg gi
          case rel => exact ⟨k + 1, by have := HK.out; show _ = _; omega, by go_num, hset, HRT.out, hbs⟩
          case measure => omega
  · have HB : endsG l = [] := by rw [endsG, if_neg hv]
    have HB2 : urgG l = [] := by rw [urgG, if_neg hv]
    have hv' : (validE l != 0) = true := by simpa using hv
    rw [HB2] at HT
    rw [HB]
    clear HB HB2
    generalize validE l = ev at *
    go_enter Try.func28, Try.ntmps28
    go_wp2_with (fail)
    refine HT.out.mono ?_
    rintro e w1 ⟨A2, c2, rfl, hr2, hb1⟩
    go_wp2_with (fail)
    go_ret2
    exact ⟨none, 0, rfl, Rd.nil _ _, hb1⟩

/-- The greatest number so far, 0 before the first. -/
def mstTo (l : List T3) (k : Nat) : Int := if k = 0 then 0 else lateTo l k
theorem mstTo_pos (l : List T3) {k : Nat} (hk : 0 < k) : mstTo l k = lateTo l k := by rw [mstTo, if_neg (by omega)]
theorem mstTo_first {l : List T3} (hl : Ok l) (h : 0 < l.length) : mstTo l 1 = (endsL l).getD 0 0 - (l.getD 0 t0).2.1 := by
  have h1 : 0 ≤ (endsL l).getD 0 0 := (endsTo_range l h (lenU l)).1
  have h2 := (hl.jobs.get h).b1
  rw [mstTo_pos l (by omega), lateTo_succ, lateTo]
  omega
theorem mstTo_next (l : List T3) {k : Nat} (hk : 0 < k) : mstTo l (k + 1) = if mstTo l k < (endsL l).getD k 0 - (l.getD k t0).2.1 then (endsL l).getD k 0 - (l.getD k t0).2.1 else mstTo l k := by
  rw [mstTo_pos l hk, mstTo_pos l (show 0 < k + 1 by omega), lateTo_succ]
  split <;> omega
theorem mstTo_end (l : List T3) : mstTo l l.length = lateL l := rfl
set_option maxRecDepth 100000 in
set_option maxHeartbeats 4000000 in
theorem rLate_c (A : Option Addr) (l : List T3) (c : Nat) (w : World) (hlen : l.length ≤ 1000) (hr : Rd w A (cellsT l)) :
    Calls Try.prog 31 #[.slice A l.length c] w fun e w' => e = .returned (.tuple #[.int .i64 (lateG l), .int .i64 (validE l)]) ∧ Below w.heap.size w w' := by
  have HT := Lib.hid (rEnds_c A l c w hlen hr)
  by_cases hv : validE l = 0
  · have hl := validE_ok.1 hv
    have h8 := hl.len
    have hN := lenU_le hl
    have HB : lateG l = lateL l := by rw [lateG, if_pos hv]
    have HB2 : endsG l = endsL l := by rw [endsG, if_pos hv]
    rw [HB2, hv] at HT
    rw [HB, hv]
    have HL := Lib.hid (mstTo_end l)
    have HM1 := Lib.hid (@mstTo_first l hl)
    have HM2 := Lib.hid (fun k (h : 0 < k) => @mstTo_next l k h)
    have HEL : Hid ((endsL l).length = l.length) := endsL_len l
    have HER := Lib.hid (fun k (h : k < l.length) => endsTo_range l h (lenU l))
    have HEE : Hid (endsL l = endsTo l (lenU l)) := rfl
    rw [← HEE.out] at HER
    clear hv HB HB2
    go_enter Try.func31, Try.ntmps31
    go_wp2_with (fail)
    refine HT.out.mono ?_
    rintro e w1 ⟨A2, c2, rfl, hr2, hb1⟩
    rw [HEL.out]
    clear HT HEE
    go_wp2_with (fail)
    go_loopg [6, 7] l.length (fun gk mv iv wr => ∃ (k : Nat) (m : Int), Hid (k + gk = l.length) ∧ iv = .int .i64 (k : Int) ∧ mv = .int .i64 m ∧ Hid (mstTo l k = m) ∧ Below w1.heap.size w1 wr)
    case atStart => exact ⟨0, 0, by simp [Hid], rfl, rfl, rfl, Below.refl _ _⟩
    case round =>
      obtain ⟨k, m, HK, rfl, rfl, HM, hb⟩ := hrel
      rcases gk with _ | gi
      · obtain rfl : k = l.length := HK.out
        have HF : Hid (lateL l = m) := by show _ = _; rw [← HL.out]; exact HM.out
        go_wp2_with (fail)
        go_ret2
        exact ⟨by rw [HF.out]; rfl, bl_call hb1 hb⟩
      · have hkl : k < l.length := by have := HK.out; omega
        have hkl' : (k : Int) < (l.length : Int) := by omega
        have hr2' := hr2.later hb
        obtain ⟨b', o', rfl, _, hcc⟩ := hr2'.at_ (k := k) (by rw [ints_length, HEL.out]; exact hkl)
        have y0 := hcc k _ (ints_get (by rw [HEL.out]; exact hkl))
        obtain ⟨b, o, rfl, hbl, c0, c1, c2⟩ := (hr.later (bl_call hb1 hb)).tri hkl
        have hj := hl.jobs.get hkl
        have j0 := hj.f0
        have j1 := hj.fb
        have j2 := hj.b1
        obtain ⟨r0, r1⟩ := HER.out k hkl
        have HS1 : Hid (k = 0 → mstTo l (k + 1) = (endsL l).getD k 0 - (l.getD k t0).2.1) := fun h => by subst h; exact HM1.out (by omega)
        have HS2 : Hid (0 < k → mstTo l (k + 1) = if mstTo l k < (endsL l).getD k 0 - (l.getD k t0).2.1 then (endsL l).getD k 0 - (l.getD k t0).2.1 else mstTo l k) := fun h => HM2.out k h
        rw [HM.out] at HS2
        generalize l.getD k t0 = g at *
        generalize (endsL l).getD k 0 = x at *
        obtain ⟨g0, g1, g2⟩ := g
        simp only [] at c0 c1 c2 HS1 HS2 j0 j1 j2
        clear hj hcc
        have r2 : x ≤ 540 := by omega
        have j3 : 0 ≤ g1 := by omega
        clear j0 j1
        by_cases hk0 : k = 0
        · have hk0' : ((k : Int) == 0) = true := by simp [hk0]
          have HS3 := Lib.hid (HS1.out hk0)
          clear hk0
          clear HS1 HS2
          go_wp2_with (fail)
          go_quiet (fail)
          go_wp2_with (fail)
          go_roundg gi
          case rel => exact ⟨k + 1, x - g1, by have := HK.out; show _ = _; omega, by go_num, rfl, HS3.out, below_drewN hb _⟩
          case measure => omega
        · have hk0' : ((k : Int) == 0) = false := by rw [beq_eq_false_iff_ne]; omega
          by_cases hlt : m < x - g1
          · have HS4 := HS2.out (by omega)
            rw [if_pos hlt] at HS4
            have HS3 := Lib.hid HS4
            clear HS1 HS2 HS4
            go_wp2_with (fail)
            go_quiet (fail)
            go_wp2_with (fail)
            go_roundg gi
            case rel => exact ⟨k + 1, x - g1, by have := HK.out; show _ = _; omega, by go_num, rfl, HS3.out, below_drewN hb _⟩
            case measure => omega
          · have HS4 := HS2.out (by omega)
            rw [if_neg hlt] at HS4
            have HS3 := Lib.hid HS4
            clear HS1 HS2 HS4
            go_wp2_with (fail)
            go_quiet (fail)
            go_wp2_with (fail)
            go_roundg gi
            case rel => exact ⟨k + 1, m, by have := HK.out; show _ = _; omega, by go_num, rfl, HS3.out, below_drewN hb _⟩
            case measure => omega
  · have HB : lateG l = 0 := by rw [lateG, if_neg hv]
    have HB2 : endsG l = [] := by rw [endsG, if_neg hv]
    have hv' : (validE l != 0) = true := by simpa using hv
    rw [HB2] at HT
    rw [HB]
    clear HB HB2
    generalize validE l = ev at *
    go_enter Try.func31, Try.ntmps31
    go_wp2_with (fail)
    refine HT.out.mono ?_
    rintro e w1 ⟨A2, c2, rfl, hr2, hb1⟩
    go_wp2_with (fail)
    go_ret2
    exact ⟨rfl, hb1⟩
end Go.Proofs.Ytiffgaelndajpaa
