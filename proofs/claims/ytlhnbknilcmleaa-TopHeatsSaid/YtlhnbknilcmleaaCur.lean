/- Package heat's Curve. -/
import Derived.Test.YtlhnbknilcmleaaFew
import Derived.Test.YtlhnbknilcmleaaHeatC
namespace Go.Proofs.Ytlhnbknilcmleaa
open Go.RowKit

def curveG (n : Int) (l : List T3) : List Int := if validE n l = 0 then curveL l else []
set_option maxRecDepth 100000 in
set_option maxHeartbeats 2000000 in
theorem Curve_c (n : Int) (A : Option Addr) (l : List T3) (c : Nat) (w : World) (hlen : l.length ≤ 1000) (hr : Rd w A (cellsT l)) :
    Calls Try.prog 42 #[.int .i64 n, .slice A l.length c] w (OutI (curveG n l) (validE n l) w) := by
  have HV := Lib.hid (validate_c n A l c w hlen hr)
  by_cases hv : validE n l = 0
  · obtain ⟨_, h20, _⟩ := validE_zero.1 hv
    have ha := validE_acts hv
    have HB : curveG n l = curveL l := by rw [curveG, if_pos hv]
    rw [hv] at HV
    rw [hv, HB]
    clear HB hv
    have HW := fun (lim : Int) (hl : 0 ≤ lim ∧ lim ≤ 100) (w1 : World) (h : Rd w1 A (cellsT l)) => Lib.hid (windowsOf_c A l c lim w1 h20 ha hl h)
    have HL := fun lim => Lib.hid (winL_len (lim := lim) ha)
    go_enter Try.func42, Try.ntmps42
    go_wp2_with (go_at_call 24; refine HV.out.mono ?_; rintro e w1 ⟨rfl, hb1⟩)
    go_loopg [7, 16] 101 (fun gk v iv wr => ∃ (k : Nat) (L : List Int), Hid (k + gk = 101) ∧ iv = .int .i64 (k : Int) ∧ Hid (L.length = k) ∧ Hid (L ++ curveR l k gk = curveL l) ∧ wr.ownsRow w.heap.size 3 1 v L.length (ints L) ∧ Below w.heap.size w wr)
    case atStart => exact ⟨0, [], rfl, rfl, rfl, rfl, World.ownsRow_nil _ _ _ _, hb1⟩
    case round =>
      obtain ⟨k, L, HK, rfl, HLL, HC, hown, hb⟩ := hrel
      have hrr := hr.later hb
      obtain ⟨B, d, rfl⟩ := own_form hown
      rcases gk with _ | gi
      · obtain rfl : k = 101 := HK.out
        have hc := HC.out
        rw [curveR, List.append_nil] at hc
        have HCC := Lib.hid hc
        clear hc
        go_wp2_with (fail)
        go_ret2
        exact ⟨B, d, by rw [← HCC.out]; rfl, by rw [← HCC.out]; exact hown, hb⟩
      · have hk1 : (k : Int) < 101 := by have := HK.out; omega
        have hk0 : 0 ≤ (k : Int) ∧ (k : Int) ≤ 100 := by omega
        have hLl : L.length ≤ 1000 := by have := HLL.out; omega
        have HW1 := fun w1 h => HW (k : Int) hk0 w1 h
        have HL1 := HL (k : Int)
        have HC2 : Hid ((L ++ [(few (k : Int) l : Int)]) ++ (if few (k : Int) l = 0 then [] else curveR l (k + 1) gi) = curveL l) := by
          have h := HC.out
          rw [curveR] at h
          show _ = _
          rw [List.append_assoc]; exact h
        have hfe := HL1.out
        generalize winL (k : Int) l = WL at *
        rw [← hfe] at HC2
        clear hfe HL HW HL1
        by_cases hz : WL.length = 0
        · have hc := HC2.out
          rw [if_pos hz, List.append_nil, hz] at hc
          have HCC : Hid (L ++ [(0 : Int)] = curveL l) := hc
          obtain rfl : WL = [] := List.length_eq_zero_iff.1 hz
          clear hc hz
          go_wp2_with (first
            | (go_at_call 66; refine (HW1 _ hrr).out.mono ?_; rintro e w2 ⟨A2, c2, rfl, ho2, hb2⟩; obtain ⟨A3, c3, W3, E3, ho3, hb3, _⟩ := append_int w.heap.size w2 _ L (0 : Int) (own_call hown hb2) (by omega) (bl_call hb hb2).size; have HE3 := Lib.hid E3; clear E3 ho2)
            | (at_builtin; refine wpList_append_eq rfl _ _ 34 rfl _ _ _ W3 rfl rfl HE3.out ?_))
          have hb4 := (bl_call hb hb2).trans hb3
          go_wp2_with (fail)
          go_ret2
          refine ⟨A3, c3, ?_, ?_, hb4⟩
          · rw [← HCC.out, List.length_append]; rfl
          · rw [← HCC.out]; rw [List.length_append] at ho3 ⊢; exact ho3
        · have hc := HC2.out
          rw [if_neg hz] at hc
          have HCC := Lib.hid hc
          have hz' : ((WL.length : Int) == 0) = false := by rw [beq_eq_false_iff_ne]; omega
          clear hc
          go_wp2_with (first
            | (go_at_call 66; refine (HW1 _ hrr).out.mono ?_; rintro e w2 ⟨A2, c2, rfl, ho2, hb2⟩; obtain ⟨A3, c3, W3, E3, ho3, hb3, _⟩ := append_int w.heap.size w2 _ L (WL.length : Int) (own_call hown hb2) (by omega) (bl_call hb hb2).size; have HE3 := Lib.hid E3; clear E3 ho2)
            | (at_builtin; refine wpList_append_eq rfl _ _ 34 rfl _ _ _ W3 rfl rfl HE3.out ?_))
          have hb4 := (bl_call hb hb2).trans hb3
          go_wp2_with (fail)
          go_roundg gi
          case rel => exact ⟨k + 1, L ++ [(WL.length : Int)], by have := HK.out; show _ = _; omega, by go_num, by have := HLL.out; show _ = _; simp; omega, HCC, ho3, hb4⟩
          case measure => omega
  · have HB : curveG n l = [] := by rw [curveG, if_neg hv]
    have hv' : (validE n l != 0) = true := by simpa using hv
    rw [HB]
    clear HB
    generalize validE n l = ev at *
    go_enter Try.func42, Try.ntmps42
    go_wp2_with (go_at_call 24; refine HV.out.mono ?_; rintro e w1 ⟨rfl, hb1⟩)
    go_ret2
    exact ⟨none, 0, rfl, World.ownsRow_nil _ _ _ _, hb1⟩
end Go.Proofs.Ytlhnbknilcmleaa
