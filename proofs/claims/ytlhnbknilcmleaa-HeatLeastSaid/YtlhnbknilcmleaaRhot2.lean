/- The document's Hot, Fits and Least. -/
import Derived.Test.YtlhnbknilcmleaaRhot
import Derived.Test.YtlhnbknilcmleaaHotC
namespace Go.Proofs.Ytlhnbknilcmleaa
open Go.RowKit

set_option maxRecDepth 100000 in
theorem rHot_c (n : Int) (A : Option Addr) (l : List T3) (c : Nat) (lim : Int) (w : World) (hlen : l.length ≤ 1000) (hr : Rd w A (cellsT l)) :
    Calls Try.prog 28 #[.int .i64 n, .slice A l.length c, .int .i64 lim] w (OutI (hotsG n l lim) (limE n l lim) w) := by
  have HV := Lib.hid (rlimited_c n A l c lim w hlen hr)
  by_cases hv : limE n l lim = 0
  · obtain ⟨_, ha, hl0, _⟩ := limE_len hv
    have HS := fun (w1 : World) (h : Rd w1 A (cellsT l)) => Lib.hid (rhot_c A l c lim w1 hlen ha h)
    have HB : hotsG n l lim = hotL lim l := by rw [hotsG, if_pos hv]
    rw [hv] at HV
    rw [hv, HB]
    clear HB hv ha hl0
    generalize hotL lim l = F at *
    go_enter Try.func28, Try.ntmps28
    go_wp2_with (go_at_call 63; refine HV.out.mono ?_; rintro e w1 ⟨rfl, hb1⟩)
    refine (HS _ (hr.later hb1)).out.mono ?_
    rintro e w2 ⟨A2, c2, rfl, ho2, hb2⟩
    go_wp2_with (fail)
    go_ret2
    exact ⟨A2, c2, rfl, own_base ho2 hb1.size, bl_call hb1 hb2⟩
  · have HB : hotsG n l lim = [] := by rw [hotsG, if_neg hv]
    have hv' : (limE n l lim != 0) = true := by simpa using hv
    rw [HB]
    clear HB
    generalize limE n l lim = ev at *
    go_enter Try.func28, Try.ntmps28
    go_wp2_with (go_at_call 63; refine HV.out.mono ?_; rintro e w1 ⟨rfl, hb1⟩)
    go_ret2
    exact ⟨none, 0, rfl, World.ownsRow_nil _ _ _ _, hb1⟩
set_option maxRecDepth 100000 in
theorem rFits_c (n : Int) (A : Option Addr) (l : List T3) (c : Nat) (lim : Int) (w : World) (hlen : l.length ≤ 1000) (hr : Rd w A (cellsT l)) :
    Calls Try.prog 30 #[.int .i64 n, .slice A l.length c, .int .i64 lim] w fun e w' => e = .returned (.tuple #[.bool (fitsG n l lim), .int .i64 (limE n l lim)]) ∧ Below w.heap.size w w' := by
  have HV := Lib.hid (rHot_c n A l c lim w hlen hr)
  by_cases hv : limE n l lim = 0
  · have HB : fitsG n l lim = decide (hotsG n l lim = []) := by rw [fitsG, decide_eq_true hv, Bool.true_and, hotsG, if_pos hv]
    rw [hv] at HV
    rw [hv, HB]
    clear HB hv
    generalize hotsG n l lim = F at *
    have HF : Hid (decide (F = []) = ((F.length : Int) == 0)) := by
      show _ = _
      cases F with
      | nil => rfl
      | cons a t => simp; omega
    rw [HF.out]
    clear HF
    go_enter Try.func30, Try.ntmps30
    go_wp2_with (go_at_call 28; refine HV.out.mono ?_; rintro e w1 ⟨A1, c1, rfl, ho1, hb1⟩)
    go_ret2
    exact ⟨rfl, hb1⟩
  · have HB : fitsG n l lim = false := by rw [fitsG, decide_eq_false hv, Bool.false_and]
    have HBB : hotsG n l lim = [] := by rw [hotsG, if_neg hv]
    have hv' : (limE n l lim == 0) = false := by simpa using hv
    rw [HBB] at HV
    rw [HB]
    clear HB HBB
    generalize limE n l lim = ev at *
    go_enter Try.func30, Try.ntmps30
    go_wp2_with (go_at_call 28; refine HV.out.mono ?_; rintro e w1 ⟨A1, c1, rfl, ho1, hb1⟩)
    go_ret2
    exact ⟨rfl, hb1⟩
theorem gateH_one {l : List T3} {k : Nat} (h : (l.getD k t0).1 = 1) : gateH l k = heatO (l.take k) (l.getD k t0).2.1 := by rw [gateH, if_pos h]
theorem gateH_not {l : List T3} {k : Nat} (h : (l.getD k t0).1 ≠ 1) : gateH l k = 0 := by rw [gateH, if_neg h]
set_option maxRecDepth 100000 in
set_option maxHeartbeats 2000000 in
theorem rLeast_c (n : Int) (A : Option Addr) (l : List T3) (c : Nat) (w : World) (hlen : l.length ≤ 1000) (hr : Rd w A (cellsT l)) :
    Calls Try.prog 33 #[.int .i64 n, .slice A l.length c] w fun e w' => e = .returned (.tuple #[.int .i64 (leastG n l), .int .i64 (validE n l)]) ∧ Below w.heap.size w w' := by
  have HV := Lib.hid (rvalidate_c n A l c w hlen hr)
  by_cases hv : validE n l = 0
  · have ha := validE_acts hv
    have HB : leastG n l = leastTo l l.length := by rw [leastG, if_pos hv]
    rw [hv] at HV
    rw [hv, HB]
    clear HB hv
    go_enter Try.func33, Try.ntmps33
    go_wp2_with (go_at_call 25; refine HV.out.mono ?_; rintro e w1 ⟨rfl, hb1⟩)
    go_loopg [7, 8] l.length (fun gk sv iv wr => ∃ k : Nat, Hid (k + gk = l.length) ∧ iv = .int .i64 (k : Int) ∧ sv = .int .i64 (leastTo l k) ∧ Below w.heap.size w wr)
    case atStart => exact ⟨0, by simp [Hid], rfl, rfl, hb1⟩
    case round =>
      obtain ⟨k, HK, rfl, rfl, hb⟩ := hrel
      rcases gk with _ | gi
      · obtain rfl : k = l.length := HK.out
        go_wp2_with (fail)
        go_ret2
        exact ⟨rfl, hb⟩
      · have hkl : k < l.length := by have := HK.out; omega
        have hkl' : (k : Int) < (l.length : Int) := by omega
        have hrr := hr.later hb
        obtain ⟨b, o, rfl, _, c0, c1, c2⟩ := hrr.tri hkl
        have HBf := fun w1 h => Lib.hid (rbefore_c (some ⟨b, o, none⟩) l c k w1 hlen ha hkl h)
        have HN : Hid (leastTo l (k + 1) = max (leastTo l k) (gateH l k)) := rfl
        have H1 := Lib.hid (@gateH_one l k)
        have H2 := Lib.hid (@gateH_not l k)
        have hs := (leastTo_range ha hlen k).1
        generalize heatO (l.take k) (l.getD k t0).2.1 = hh at *
        generalize l.getD k t0 = g at c0 c1 c2 H1 H2
        obtain ⟨g0, g1, g2⟩ := g
        simp only [] at c0 c1 c2
        generalize leastTo l k = s at *
        by_cases h1 : g0 = 1
        · have HX : Hid (leastTo l (k + 1) = max s hh) := by show _ = _; rw [HN.out, H1.out h1]
          subst h1
          go_wp2_with (go_at_call 56; refine (HBf _ hrr).out.mono ?_; rintro e w2 ⟨rfl, hb2⟩)
          all_goals
            go_roundg gi
            case rel => exact ⟨k + 1, by have := HK.out; show _ = _; omega, by go_num, by rw [HX.out]; congr 1; omega, bl_call hb hb2⟩
            case measure => omega
        · have HX : Hid (leastTo l (k + 1) = s) := by show _ = _; rw [HN.out, H2.out h1]; omega
          have q1 : (g0 == 1) = false := by simpa using h1
          go_wp2_with (fail)
          go_roundg gi
          case rel => exact ⟨k + 1, by have := HK.out; show _ = _; omega, by go_num, by rw [HX.out], hb⟩
          case measure => omega
  · have HB : leastG n l = 0 := by rw [leastG, if_neg hv]
    have hv' : (validE n l != 0) = true := by simpa using hv
    rw [HB]
    clear HB
    generalize validE n l = ev at *
    go_enter Try.func33, Try.ntmps33
    go_wp2_with (go_at_call 25; refine HV.out.mono ?_; rintro e w1 ⟨rfl, hb1⟩)
    go_ret2
    exact ⟨rfl, hb1⟩
end Go.Proofs.Ytlhnbknilcmleaa
