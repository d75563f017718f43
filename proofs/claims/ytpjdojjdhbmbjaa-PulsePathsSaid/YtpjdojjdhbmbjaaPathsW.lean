/- The walk of the statement on paths. -/
import Derived.Test.YtpjdojjdhbmbjaaRpath
import Derived.Test.YtpjdojjdhbmbjaaRvals
import Derived.Test.YtpjdojjdhbmbjaaKnown
namespace Go.Proofs.Ytpjdojjdhbmbjaa
open Go.RowKit

set_option maxRecDepth 100000 in
set_option maxHeartbeats 1000000 in
theorem pulsePaths_walk (A : Option Addr) (p : List Int) (cap : Nat) (m : Int) (w : World) (hcap : p.length ≤ cap) (hr : Rd w A (ints p)) (_hm : (Lit.int .i64 m).wf = true) :
    Calls Try.prog 3 #[.slice A p.length cap, .int .i64 m] w fun e w' => e = .returned (.bool true) ∧ Below w.heap.size w w' := by
  by_cases h1 : 100 < p.length
  · have h1' : decide (100 < p.length) = true := by simpa using h1
    go_enter Try.func3, Try.ntmps3
    go_wp2_with (first | (go_at_call 17; refine (long_c _ _ _ _).mono ?_; rintro e w' ⟨rfl, rfl⟩) | (go_at_call 18; refine (known_c _).mono ?_; rintro e w' ⟨rfl, hb1⟩))
    go_ret
    exact ⟨rfl, hb1⟩
  · have h1' : decide (100 < p.length) = false := by simpa using h1
    have HA := Lib.hid (path_c A p cap m w (by omega) hr)
    have HB := fun w1 (hb : Below w.heap.size w w1) => Lib.hid (rpath_c A p cap m w1 hcap (hr.later hb))
    unfold PtOut at HA HB
    have HC := fun w1 (hb : Below w.heap.size w w1) => Lib.hid (end_c A p cap m w1 (by omega) (hr.later hb))
    have HD := fun w1 (hb : Below w.heap.size w w1) => Lib.hid (rEnd_c A p cap m w1 (by omega) (hr.later hb))
    have HV := fun w1 (hb : Below w.heap.size w w1) => Lib.hid (validate_c A p cap w1 (hr.later hb))
    have HW := fun w1 (hb : Below w.heap.size w w1) => Lib.hid (rvalidate_c A p cap w1 (hr.later hb))
    have HG := Lib.hid (end_g p m)
    have hgl : (pathG p m).length ≤ 101 := by
      unfold pathG; split
      · rw [pathL_len]; omega
      · exact Nat.zero_le _
    generalize pathG p m = L at HA HB hgl
    generalize endG p m = a at HC HG
    generalize endGR p m = b at HD HG
    generalize inE p m = E at HA HB HC HD
    generalize validE p = V at HV HW
    go_enter Try.func3, Try.ntmps3
    go_wp2_with (go_at_call 17; refine (long_c _ _ _ _).mono ?_; rintro e w' ⟨rfl, rfl⟩)
    refine HA.out.mono ?_
    rintro e w1 ⟨A1, c1, rfl, hr1, hb1⟩
    go_wp2_with (fail)
    refine (HB w1 hb1).out.mono ?_
    rintro e w2 ⟨A2, c2, rfl, hr2, hb2⟩
    have hw2 := bl_call hb1 hb2
    replace hr1 := hr1.later hb2
    clear HA HB
    go_wp2_with (fail)
    refine (HC w2 hw2).out.mono ?_
    rintro e w3 ⟨u, v, rfl, huv, hb3⟩
    have ha3 := bl_alloc hb3 (.cells #[.int .i64 u, .int .i64 v] 30)
    have x3 := Bx.new w3 30 #[.int .i64 u, .int .i64 v]
    have hw3 := bl_call hw2 ha3
    replace hr1 := hr1.later ha3
    replace hr2 := hr2.later ha3
    clear HC
    go_wp2_with (fail)
    refine (HD _ hw3).out.mono ?_
    rintro e w4 ⟨u2, v2, rfl, huv2, hb4⟩
    have hq : ((u2, v2) : Int × Int) = (u, v) := by rw [huv, huv2, HG.out]
    cases hq
    have ha4 := bl_alloc hb4 (.cells #[.int .i64 u, .int .i64 v] 30)
    have x4 := Bx.new w4 30 #[.int .i64 u, .int .i64 v]
    replace x3 := x3.call ha4
    have hw4 := bl_call hw3 ha4
    replace hr1 := hr1.later ha4
    replace hr2 := hr2.later ha4
    clear HD HG huv huv2
    have hv1 := HV _ hw4
    have hv2 := HW _ hw4
    clear HV HW ha3 ha4 hb3 hb4
    have hl3 := x3.lt
    generalize w3.heap.size = g3 at *
    go_wp2_with (fail)
    refine hv1.out.mono ?_
    rintro e w5 ⟨rfl, rfl⟩
    go_wp2_with (fail)
    refine hv2.out.mono ?_
    rintro e w5 ⟨rfl, rfl⟩
    go_wp2_with (fail)
    refine (samePoints_c A1 A2 L L c1 c2 _ (by omega) hr1 hr2).mono ?_
    rintro e w6 ⟨rfl, hb6⟩
    rw [decide_eq_true rfl]
    obtain ⟨i1, i2, i3, i4⟩ := (x3.call hb6).two
    obtain ⟨j1, j2, j3, j4⟩ := (x4.call hb6).two
    have hw6 := bl_call hw4 hb6
    clear x3 x4 hr1 hr2
    go_wp2_with (fail)
    refine (known_c _).mono ?_
    rintro e w9 ⟨rfl, hb9⟩
    go_wp2_with (fail)
    go_ret
    exact ⟨rfl, bl_call hw6 hb9⟩
end Go.Proofs.Ytpjdojjdhbmbjaa
