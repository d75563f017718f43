/- The walk of the statement on the modes in which a pulse is closed, and calm. -/
import Derived.Test.YtaaggekifibocaaRmodes
import Derived.Test.YtaaggekifibocaaRvals
import Derived.Test.YtaaggekifibocaaKnown
import Derived.Test.YtaaggekifibocaaCmp
namespace Go.Proofs.Ytaaggekifibocaa
open Go.RowKit

theorem mem_modes {p : List Int} {B : Int → Bool} {k : Nat} (hv : validE p = 0) (hk : k < 4) : decide ((k : Int) ∈ modesG p B) = B k := by
  rw [modesG, if_pos hv, Bool.eq_iff_iff, decide_eq_true_iff]
  simp only [modesF, List.mem_filter, List.mem_map, List.mem_range]
  exact ⟨fun h => h.2, fun h => ⟨⟨k, hk, rfl⟩, h⟩⟩
theorem modesG_len (p : List Int) (B : Int → Bool) : (modesG p B).length ≤ 4 := by
  unfold modesG; split
  · exact modesF_len B 4
  · simp

theorem has_q (A : Option Addr) (L : List Int) (c : Nat) (k : Int) (b : Bool) (w : World) (n : Nat) (hl : L.length ≤ 4) (hr : Rd w A (ints L)) (hb : decide (k ∈ L) = b) :
    Calls Try.prog 35 #[.slice A L.length c, .int .i64 k] (w.drewN n) fun e w' => e = .returned (.bool b) ∧ w' = w.drewN n :=
  (has_c A L c k (w.drewN n) (by omega) hr).mono fun e w' ⟨he, hw⟩ => ⟨by rw [he, hb], hw.symm⟩

set_option maxRecDepth 100000 in
set_option maxHeartbeats 2000000 in
theorem pulseCloses_walk (A : Option Addr) (p : List Int) (cap : Nat) (w : World) (hr : Rd w A (ints p)) :
    Calls Try.prog 5 #[.slice A p.length cap] w fun e w' => e = .returned (.bool true) ∧ Below w.heap.size w w' := by
  by_cases h1 : 100 < p.length
  · have h1' : decide (100 < p.length) = true := by simpa using h1
    go_enter Try.func5, Try.ntmps5
    go_wp2_with (first | (go_at_call 17; refine (long_c _ _ _ _).mono ?_; rintro e w' ⟨rfl, rfl⟩) | (go_at_call 18; refine (known_c _).mono ?_; rintro e w' ⟨rfl, hb1⟩))
    go_ret
    exact ⟨rfl, hb1⟩
  · have h1' : decide (100 < p.length) = false := by simpa using h1
    have HA := Lib.hid (closed_c A p cap w (by omega) hr)
    have HB := fun w1 (hb : Below w.heap.size w w1) => Lib.hid (rClosed_c A p cap w1 (by omega) (hr.later hb))
    have HC := fun w1 (hb : Below w.heap.size w w1) => Lib.hid (calm_c A p cap w1 (by omega) (hr.later hb))
    have HD := fun w1 (hb : Below w.heap.size w w1) => Lib.hid (rCalm_c A p cap w1 (by omega) (hr.later hb))
    have HE : Hid (∀ k : Nat, k < 4 → validE p = 0 → ∀ w1 : World, Below w.heap.size w w1 → Calls Try.prog 21 #[.slice A p.length cap, .int .i64 k] w1 fun e w' => ∃ u v, e = .returned (.tuple #[.agg #[.int .i64 u, .int .i64 v], .int .i64 0]) ∧ (u, v) = endR k p ∧ Below w1.heap.size w1 w') := fun k hk hv w1 hb =>
      (end_c A p cap k w1 (by omega) (hr.later hb)).mono fun e w' ⟨u, v, he, huv, hb'⟩ => by
        have hin : inE p k = 0 := by unfold inE; rw [if_pos hv, if_pos]; simp [inB]; omega
        refine ⟨u, v, by rw [he, hin], ?_, hb'⟩
        rw [huv, endG, if_pos hin, end_same (ok_of hin)]
    rw [closed_same] at HA
    simp only [calm_same] at HC
    have HL1 := modesG_len p (closedR p)
    have HL2 := modesG_len p (calmR p)
    have HM1 : Hid (∀ k : Nat, k < 4 → validE p = 0 → decide ((k : Int) ∈ modesG p (closedR p)) = closedR p k) := fun k hk hv => mem_modes hv hk
    have HM2 : Hid (∀ k : Nat, k < 4 → validE p = 0 → decide ((k : Int) ∈ modesG p (calmR p)) = calmR p k) := fun k hk hv => mem_modes hv hk
    generalize modesG p (closedR p) = La at HA HB HL1 HM1
    generalize modesG p (calmR p) = Lc at HC HD HL2 HM2
    generalize validE p = E at HA HB HC HD HE HM1 HM2
    go_enter Try.func5, Try.ntmps5
    go_wp2_with (go_at_call 17; refine (long_c _ _ _ _).mono ?_; rintro e w' ⟨rfl, rfl⟩)
    refine HA.out.mono ?_
    rintro e w1 ⟨A1, c1, rfl, hr1, hb1⟩
    go_wp2_with (fail)
    refine (HB w1 hb1).out.mono ?_
    rintro e w2 ⟨A2, c2, rfl, hr2, hb2⟩
    have hw2 := bl_call hb1 hb2
    go_wp2_with (fail)
    refine (HC w2 hw2).out.mono ?_
    rintro e w3 ⟨A3, c3, rfl, hr3, hb3⟩
    have hw3 := bl_call hw2 hb3
    go_wp2_with (fail)
    refine (HD w3 hw3).out.mono ?_
    rintro e w4 ⟨A4, c4, rfl, hr4, hb4⟩
    have hw4 := bl_call hw3 hb4
    replace hr1 := ((hr1.later hb2).later hb3).later hb4
    replace hr2 := (hr2.later hb3).later hb4
    replace hr3 := hr3.later hb4
    clear HA HB HC HD hb1 hb2 hb3 hb4 hw2 hw3
    go_wp2_with (fail)
    refine (sameInts_c A1 A2 La La c1 c2 w4 (by omega) hr1 hr2).mono ?_
    rintro e w5 ⟨rfl, hb5⟩
    replace hw4 := bl_call hw4 hb5
    replace hr1 := hr1.later hb5
    replace hr3 := hr3.later hb5
    replace hr4 := hr4.later hb5
    clear hb5
    go_wp2_with (fail)
    refine (sameInts_c A3 A4 Lc Lc c3 c4 w5 (by omega) hr3 hr4).mono ?_
    rintro e w6 ⟨rfl, hb6⟩
    replace hw4 := bl_call hw4 hb6
    replace hr1 := hr1.later hb6
    replace hr3 := hr3.later hb6
    clear hb6 hr4 hr2
    by_cases hE : (E != 0) = true
    · go_wp2_with (fail)
      refine (known_c _).mono ?_
      rintro e w7 ⟨rfl, hb7⟩
      go_wp2_with (fail)
      go_ret
      exact ⟨rfl, bl_call hw4 hb7⟩
    · have hE' : (E != 0) = false := by simpa using hE
      have hE0 : E = 0 := by simpa using hE'
      subst hE0
      clear hE hE'
      go_wp2_with (fail)
      go_loopw [11] (fun i wr => ∃ k : Nat, k ≤ 4 ∧ i = .int .i64 k ∧ Rd wr A1 (ints La) ∧ Rd wr A3 (ints Lc) ∧ Below w.heap.size w wr) (fun i _ => 4 - (intOf i).toNat)
      case atStart => exact ⟨0, by omega, rfl, hr1, hr3, hw4⟩
      case round =>
        obtain ⟨k, hk, rfl, hra, hrc, hb⟩ := hrel
        clear hr1 hr3 hw4
        by_cases hlt : k < 4
        · have hm1 := HM1.out k hlt trivial
          have hm2 := HM2.out k hlt trivial
          have HE1 := Lib.hid (HE.out k hlt trivial wr hb)
          clear HE HM1 HM2
          go_wp2_with (fail)
          refine HE1.out.mono ?_
          rintro e w7 ⟨u, v, rfl, huv, hb7⟩
          have hcl : closedR p k = ((u, v) == (0, 0)) := by rw [closedR, huv]
          have hcm : calmR p k = (((u, v) == (0, 0)) && (sumR k p == (0, 0))) := by rw [calmR, hcl]
          clear huv HE1
          rw [hcl] at hm1
          rw [hcm] at hm2
          generalize (sumR k p == (0, 0)) = sb at hm2
          clear hcl hcm
          have hra7 := (hra.later hb7).later (bl_alloc (Below.refl _ _) (.cells #[.int .i64 u, .int .i64 v] 30))
          have hrc7 := (hrc.later hb7).later (bl_alloc (Below.refl _ _) (.cells #[.int .i64 u, .int .i64 v] 30))
          have hb8 := bl_alloc (bl_call hb hb7) (.cells #[.int .i64 u, .int .i64 v] 30)
          have x7 := (Bx.new w7 30 #[.int .i64 u, .int .i64 v]).two
          clear hra hrc hb hb7
          have HA1 := fun n => Lib.hid (has_q A1 La c1 k _ _ n HL1 hra7 hm1)
          have HA3 := fun n => Lib.hid (has_q A3 Lc c3 k _ _ n HL2 hrc7 hm2)
          clear hm1 hm2
          by_cases hu : u = 0 ∧ v = 0
          · obtain ⟨rfl, rfl⟩ := hu
            simp only [pair_yes, Bool.true_and] at HA1 HA3
            go_wp2_with (fail)
            cases sb
            · go_quiet ((go_at_call 35; first | (with_reducible exact Calls.quiet_of_same (HA1 _).out) | (with_reducible exact Calls.quiet_of_same (HA3 _).out)))
              go_wp2_with (fail)
              go_roundw
              · exact ⟨k + 1, by omega, by go_num, hra7, hrc7, below_drewN hb8 _⟩
              · show 4 - ((k : Int) + 1).toNat < 4 - (k : Int).toNat
                omega
            · go_quiet ((go_at_call 35; first | (with_reducible exact Calls.quiet_of_same (HA1 _).out) | (with_reducible exact Calls.quiet_of_same (HA3 _).out)))
              go_wp2_with (fail)
              go_roundw
              · exact ⟨k + 1, by omega, by go_num, hra7, hrc7, below_drewN hb8 _⟩
              · show 4 - ((k : Int) + 1).toNat < 4 - (k : Int).toNat
                omega
          · simp only [pair_no hu, Bool.false_and] at HA1 HA3
            by_cases hu0 : u = 0
            · subst hu0
              have hv0 : (v == 0) = false := by simpa using fun h => hu ⟨rfl, h⟩
              go_wp2_with (fail)
              go_quiet ((go_at_call 35; first | (with_reducible exact Calls.quiet_of_same (HA1 _).out) | (with_reducible exact Calls.quiet_of_same (HA3 _).out)))
              go_wp2_with (fail)
              go_roundw
              · exact ⟨k + 1, by omega, by go_num, hra7, hrc7, below_drewN hb8 _⟩
              · show 4 - ((k : Int) + 1).toNat < 4 - (k : Int).toNat
                omega
            · have hu0' : (u == 0) = false := by simpa using hu0
              go_wp2_with (fail)
              go_quiet ((go_at_call 35; first | (with_reducible exact Calls.quiet_of_same (HA1 _).out) | (with_reducible exact Calls.quiet_of_same (HA3 _).out)))
              go_wp2_with (fail)
              go_roundw
              · exact ⟨k + 1, by omega, by go_num, hra7, hrc7, below_drewN hb8 _⟩
              · show 4 - ((k : Int) + 1).toNat < 4 - (k : Int).toNat
                omega
        · obtain rfl : k = 4 := by omega
          go_wp2_with (fail)
          refine (known_c _).mono ?_
          rintro e w7 ⟨rfl, hb7⟩
          go_wp2_with (fail)
          go_ret
          exact ⟨rfl, bl_call hb hb7⟩
end Go.Proofs.Ytaaggekifibocaa
