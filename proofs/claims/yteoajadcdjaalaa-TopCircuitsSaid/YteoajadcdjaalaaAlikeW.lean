/- The walk of the law on alike circuits. -/
import Derived.Test.YteoajadcdjaalaaRalike2
import Derived.Test.YteoajadcdjaalaaFirstsW
namespace Go.Proofs.Yteoajadcdjaalaa
open Go.RowKit

set_option maxRecDepth 100000 in
theorem two_c (n : Int) (A B : Option Addr) (l m : List G) (c d : Nat) (w : World) (hlen : l.length ≤ 1000) (hlen' : m.length ≤ 1000) (hr : Rd w A (cellsG l)) (hs : Rd w B (cellsG m)) :
    Calls Try.prog 62 #[.int .i64 n, .slice A l.length c, .slice B m.length d] w fun e w' => e = .returned (.int .i64 (bothE n l m)) ∧ Below w.heap.size w w' := by
  have HV := Lib.hid (rvalidate_c n A l c w hlen hr)
  have HW := fun w1 h => Lib.hid (rvalidate_c n B m d w1 hlen' h)
  have HE : Hid (bothE n l m = if validE n l = 0 then validE n m else validE n l) := rfl
  generalize validE n l = e1 at *
  generalize validE n m = e2 at *
  by_cases hv : e1 = 0
  · subst hv
    go_enter Try.func62, Try.ntmps62
    go_wp2_with (fail)
    refine HV.out.mono ?_
    rintro e w1 ⟨rfl, hb1⟩
    go_wp2_with (fail)
    refine (HW _ (hs.later hb1)).out.mono ?_
    rintro e w2 ⟨rfl, hb2⟩
    go_wp2_with (fail)
    go_ret
    exact ⟨by rw [HE.out]; rfl, bl_call hb1 hb2⟩
  · have HE' : Hid (bothE n l m = e1) := by show _ = _; rw [HE.out, if_neg hv]
    go_enter Try.func62, Try.ntmps62
    go_wp2_with (fail)
    refine HV.out.mono ?_
    rintro e w1 ⟨rfl, hb1⟩
    go_wp2_with (fail)
    go_ret
    exact ⟨by rw [HE'.out]; rfl, hb1⟩

set_option maxRecDepth 100000 in
theorem rAlike_c (n : Int) (A B : Option Addr) (l m : List G) (c d : Nat) (w : World) (hlen : l.length ≤ 1000) (hlen' : m.length ≤ 1000) (hr : Rd w A (cellsG l)) (hs : Rd w B (cellsG m)) :
    Calls Try.prog 23 #[.int .i64 n, .slice A l.length c, .slice B m.length d] w fun e w' => e = .returned (.tuple #[.bool (alikeB n l m), .int .i64 (bothE n l m)]) ∧ Below w.heap.size w w' := by
  have HV := Lib.hid (two_c n A B l m c d w hlen hlen' hr hs)
  by_cases hv : bothE n l m = 0
  · obtain ⟨hv1, hv2⟩ := bothE_zero hv
    have HS := fun (w1 : World) h1 h2 => Lib.hid (ralike_c A B l m c d w1 hlen hlen' (validE_gs hv1) (validE_gs hv2) h1 h2)
    have HA : Hid (alikeB n l m = sameL (nameL l) (nameL m)) := by show _ = _; rw [alikeB, hv]; rfl
    rw [hv] at HV
    rw [hv]
    generalize sameL (nameL l) (nameL m) = sb at *
    go_enter Try.func23, Try.ntmps23
    go_wp2_with (go_at_call 62; refine HV.out.mono ?_; rintro e w1 ⟨rfl, hb1⟩)
    refine (HS _ (hr.later hb1) (hs.later hb1)).out.mono ?_
    rintro e w2 ⟨rfl, hb2⟩
    go_wp2_with (fail)
    go_ret2
    exact ⟨by rw [HA.out]; rfl, bl_call hb1 hb2⟩
  · have HA : Hid (alikeB n l m = false) := by show _ = _; simp [alikeB, hv]
    generalize bothE n l m = ev at hv HV
    go_enter Try.func23, Try.ntmps23
    go_wp2_with (go_at_call 62; refine HV.out.mono ?_; rintro e w1 ⟨rfl, hb1⟩)
    go_ret2
    exact ⟨by rw [HA.out]; rfl, hb1⟩

set_option maxRecDepth 100000 in
set_option maxHeartbeats 4000000 in
theorem circuitAlike_walk (n : Int) (A : Option Addr) (l : List G) (c : Nat) (B : Option Addr) (m : List G) (d : Nat) (w : World) (_hn : (Lit.int .i64 n).wf = true) (hr : Rd w A (cellsG l)) (hs : Rd w B (cellsG m)) :
    Calls Try.prog 4 #[.int .i64 n, .slice A l.length c, .slice B m.length d] w fun e w' => e = .returned (.bool true) ∧ Below w.heap.size w w' := by
  have HL := fun w => Lib.hid (long_c A l.length c w)
  have HM := fun w => Lib.hid (long_c B m.length d w)
  have HK := fun w => Lib.hid (known_c w)
  by_cases hlong : 50 < l.length
  · rw [decide_eq_true hlong] at HL
    go_enter Try.func4, Try.ntmps4
    go_wp2_with (fail)
    refine (HL _).out.mono ?_
    rintro e w1 ⟨rfl, rfl⟩
    go_wp2_with (fail)
    refine (HK _).out.mono ?_
    rintro e w2 ⟨rfl, hb2⟩
    go_wp2_with (fail)
    go_ret
    exact ⟨rfl, hb2⟩
  · rw [decide_eq_false hlong] at HL
    by_cases hlong2 : 50 < m.length
    · rw [decide_eq_true hlong2] at HM
      go_enter Try.func4, Try.ntmps4
      go_wp2_with (fail)
      refine (HL _).out.mono ?_
      rintro e w1 ⟨rfl, rfl⟩
      go_wp2_with (fail)
      refine (HM _).out.mono ?_
      rintro e w1 ⟨rfl, rfl⟩
      go_wp2_with (fail)
      refine (HK _).out.mono ?_
      rintro e w2 ⟨rfl, hb2⟩
      go_wp2_with (fail)
      go_ret
      exact ⟨rfl, hb2⟩
    · rw [decide_eq_false hlong2] at HM
      have hlen : l.length ≤ 1000 := by omega
      have hlen' : m.length ≤ 1000 := by omega
      clear hlong hlong2
      have H1 := Lib.hid (Alike_c n A B l m c d w hlen hlen' hr hs)
      have H2 := fun w1 h1 h2 => Lib.hid (rAlike_c n A B l m c d w1 hlen hlen' h1 h2)
      have H3 := fun w1 h1 => Lib.hid (validate_c n A l c w1 hlen h1)
      have H4 := fun w1 h1 => Lib.hid (rvalidate_c n A l c w1 hlen h1)
      have H5 := fun w1 h1 => Lib.hid (Name_c n A l c w1 hlen h1)
      have H6 := fun w1 h1 => Lib.hid (Name_c n B m d w1 hlen' h1)
      have HV : Hid (bothE n l m = 0 → validE n l = 0 ∧ validE n m = 0 ∧ nmL n l = nameL l ∧ nmL n m = nameL m ∧ alikeB n l m = sameL (nameL l) (nameL m)) := fun h => by
        obtain ⟨h1, h2⟩ := bothE_zero h
        exact ⟨h1, h2, by rw [nmL, if_pos h1], by rw [nmL, if_pos h2], by rw [alikeB, h]; rfl⟩
      have hm1 : (nameL l).length ≤ 1000 := by rw [nameL_len]; exact hlen
      generalize alikeB n l m = ab at *
      generalize bothE n l m = eb at *
      generalize validE n l = e1 at *
      generalize validE n m = e2 at *
      generalize nmL n l = N1 at *
      generalize nmL n m = N2 at *
      generalize nameL l = M1 at *
      generalize nameL m = M2 at *
      go_enter Try.func4, Try.ntmps4
      go_wp2_with (fail)
      refine (HL _).out.mono ?_
      rintro e w1 ⟨rfl, rfl⟩
      go_wp2_with (fail)
      refine (HM _).out.mono ?_
      rintro e w1 ⟨rfl, rfl⟩
      go_wp2_with (fail)
      refine H1.out.mono ?_
      rintro e w1 ⟨rfl, hb1⟩
      go_wp2_with (fail)
      refine (H2 _ (hr.later hb1) (hs.later hb1)).out.mono ?_
      rintro e w2 ⟨rfl, hb2⟩
      have hb12 := bl_call hb1 hb2
      go_wp2_with (fail)
      refine (H3 _ (hr.later hb12)).out.mono ?_
      rintro e w3 ⟨rfl, hb3⟩
      have hb13 := bl_call hb12 hb3
      go_wp2_with (fail)
      refine (H4 _ (hr.later hb13)).out.mono ?_
      rintro e w4 ⟨rfl, hb4⟩
      have hb14 := bl_call hb13 hb4
      by_cases hv : eb = 0
      · obtain ⟨rfl, rfl, rfl, rfl, rfl⟩ := HV.out hv
        subst hv
        go_wp2_with (fail)
        refine (H5 _ (hr.later hb14)).out.mono ?_
        rintro e w5 ⟨A5, c5, rfl, ho5, hb5⟩
        have hb15 := bl_call hb14 hb5
        go_wp2_with (fail)
        refine (H6 _ (hs.later hb15)).out.mono ?_
        rintro e w6 ⟨A6, c6, rfl, ho6, hb6⟩
        have hb16 := bl_call hb15 hb6
        have HS := Lib.hid (same_c A5 A6 _ _ c5 c6 w6 hm1 ((own_rd ho5).1.later hb6) (own_rd ho6).1)
        generalize sameL N1 N2 = sb at *
        go_wp2_with (fail)
        refine HS.out.mono ?_
        rintro e w7 ⟨rfl, hb7⟩
        have hb17 := bl_call hb16 hb7
        go_wp2_with (fail)
        refine (HK _).out.mono ?_
        rintro e w8 ⟨rfl, hb8⟩
        go_wp2_with (fail)
        go_ret
        exact ⟨rfl, bl_call hb17 hb8⟩
      · clear HV
        go_wp2_with (fail)
        refine (HK _).out.mono ?_
        rintro e w5 ⟨rfl, hb5⟩
        go_wp2_with (fail)
        go_ret
        exact ⟨rfl, bl_call hb14 hb5⟩
end Go.Proofs.Yteoajadcdjaalaa
