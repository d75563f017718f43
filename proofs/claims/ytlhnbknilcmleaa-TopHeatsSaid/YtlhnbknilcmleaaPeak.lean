/- slices.Max at numbers; package heat's Peak. -/
import Derived.Test.YtlhnbknilcmleaaHotC
namespace Go.Proofs.Ytlhnbknilcmleaa
open Go.RowKit

def mxTo (l : List Int) : Nat → Int
  | 0 => l.getD 0 0
  | k + 1 => max (mxTo l k) (l.getD (k + 1) 0)
set_option maxRecDepth 100000 in
theorem maxI_c (A : Option Addr) (l : List Int) (c : Nat) (w : World) (hpos : 0 < l.length) (hlen : l.length ≤ 1000) (hr : Rd w A (ints l)) :
    Calls Try.prog 57 #[.slice A l.length c] w fun e w' => e = .returned (.int .i64 (mxTo l (l.length - 1))) ∧ w = w' := by
  obtain ⟨b, o, rfl, hb, hc⟩ := hr.at_ (k := 0) (by rw [ints_length]; exact hpos)
  have h0 := hc 0 _ (ints_get hpos)
  rw [Nat.add_zero] at h0
  have HC := Lib.hid hc
  obtain ⟨x0, hx0⟩ : ∃ x, x = l.getD 0 0 := ⟨_, rfl⟩
  rw [← hx0] at h0
  have HX0 := Lib.hid hx0
  clear hx0 hc
  have h1 : ¬ ((l.length : Int) < 1) := by omega
  have h2 : (0 : Int) < (l.length : Int) := by omega
  have hnil : ¬ l = [] := fun e => by rw [e] at hpos; simp at hpos
  go_enter Try.func57, Try.ntmps57
  go_wp2_with (fail)
  go_loopg [3, 4] (l.length - 1) (fun gk sv iv wr => ∃ k : Nat, Hid (k + gk = l.length) ∧ 0 < k ∧ iv = .int .i64 (k : Int) ∧ sv = .int .i64 (mxTo l (k - 1)) ∧ wr = w)
  case atStart => exact ⟨1, by show _ = _; omega, by omega, rfl, by rw [HX0.out]; rfl, rfl⟩
  case round =>
    obtain ⟨k, HK, hk0, rfl, rfl, rfl⟩ := hrel
    rcases gk with _ | gi
    · obtain rfl : k = l.length := HK.out
      go_wp2_with (fail)
      go_ret
      exact ⟨rfl, rfl⟩
    · have hkl : k < l.length := by have := HK.out; omega
      have hkl' : (k : Int) < (l.length : Int) := by omega
      have c0 := HC.out k _ (ints_get hkl)
      have HN : Hid (mxTo l k = max (mxTo l (k - 1)) (l.getD k 0)) := by
        show _ = _
        obtain ⟨j, rfl⟩ : ∃ j, k = j + 1 := ⟨k - 1, by omega⟩
        rfl
      generalize mxTo l (k - 1) = s at *
      generalize l.getD k 0 = x at *
      go_wp2_with (fail)
      all_goals
        go_roundg gi
        case rel => exact ⟨k + 1, by have := HK.out; show _ = _; omega, by omega, by go_num, by rw [Nat.add_sub_cancel, HN.out]; congr 1; omega, rfl⟩
        case measure => omega

/-- The greatest heat behind an act, the greatest one behind the first k acts. -/
def heatMx (l : List T3) : Int := max (max (max (heatO l 0) (heatO l 1)) (heatO l 2)) (heatO l 3)
def peakTo (l : List T3) : Nat → Int
  | 0 => 0
  | k + 1 => max (peakTo l k) (heatMx (l.take (k + 1)))
def peakG (n : Int) (l : List T3) : Int := if validE n l = 0 then peakTo l l.length else 0

set_option maxRecDepth 100000 in
set_option maxHeartbeats 2000000 in
theorem Peak_c (n : Int) (A : Option Addr) (l : List T3) (c : Nat) (w : World) (hlen : l.length ≤ 1000) (hr : Rd w A (cellsT l)) :
    Calls Try.prog 22 #[.int .i64 n, .slice A l.length c] w fun e w' => e = .returned (.tuple #[.int .i64 (peakG n l), .int .i64 (validE n l)]) ∧ Below w.heap.size w w' := by
  have HV := Lib.hid (validate_c n A l c w hlen hr)
  by_cases hv : validE n l = 0
  · have ha := validE_acts hv
    have HB : peakG n l = peakTo l l.length := by rw [peakG, if_pos hv]
    rw [hv] at HV
    rw [hv, HB]
    clear HB hv
    have HM := fun w1 h => Lib.hid (momentsOf_c A l c w1 hlen ha h)
    go_enter Try.func22, Try.ntmps22
    go_wp2_with (first | (go_at_call 24; refine HV.out.mono ?_; rintro e w1 ⟨rfl, hb1⟩) | (go_at_call 54; refine (HM _ (hr.later hb1)).out.mono ?_; rintro e w2 ⟨g, rfl, hm2, hb2⟩))
    go_loopg [7, 19] l.length (fun gk sv iv wr => ∃ k : Nat, Hid (k + gk = l.length) ∧ iv = .int .i64 (k : Int) ∧ sv = .int .i64 (peakTo l k) ∧ Below w.heap.size w wr ∧ MomK wr g l l.length)
    case atStart => exact ⟨0, by simp [Hid], rfl, rfl, bl_call hb1 hb2, hm2⟩
    case round =>
      obtain ⟨k, HK, rfl, rfl, hb, hm⟩ := hrel
      rcases gk with _ | gi
      · obtain rfl : k = l.length := HK.out
        go_wp2_with (fail)
        go_ret2
        exact ⟨rfl, hb⟩
      · have hkl : k < l.length := by have := HK.out; omega
        have hkl' : (k : Int) < (l.length : Int) := by omega
        obtain ⟨c0, c1, c2, c3, c4, c5, c6⟩ := hm.read hkl
        have HN : Hid (peakTo l (k + 1) = max (peakTo l k) (max (max (max (heatO (l.take (k + 1)) 0) (heatO (l.take (k + 1)) 1)) (heatO (l.take (k + 1)) 2)) (heatO (l.take (k + 1)) 3))) := rfl
        generalize (l.getD k t0).1 = v0 at *
        generalize (l.getD k t0).2.1 = v1 at *
        generalize (l.getD k t0).2.2 = v2 at *
        generalize heatO (l.take (k + 1)) 0 = v3 at *
        generalize heatO (l.take (k + 1)) 1 = v4 at *
        generalize heatO (l.take (k + 1)) 2 = v5 at *
        generalize heatO (l.take (k + 1)) 3 = v6 at *
        generalize peakTo l k = s at HN
        have hal := bl_alloc (Below.refl wr.heap.size wr) (.cells #[.int .i64 v0, .int .i64 v1, .int .i64 v2, .int .i64 v3, .int .i64 v4, .int .i64 v5, .int .i64 v6] 72)
        have hba := bl_call hb hal
        have hma := hm.call hal
        have hbx := Bx.new wr 72 #[.int .i64 v0, .int .i64 v1, .int .i64 v2, .int .i64 v3, .int .i64 v4, .int .i64 v5, .int .i64 v6]
        have hrd : Rd (wr.alloc (.cells #[.int .i64 v0, .int .i64 v1, .int .i64 v2, .int .i64 v3, .int .i64 v4, .int .i64 v5, .int .i64 v6] 72)) (some ⟨wr.heap.size, 3, none⟩) (ints [v3, v4, v5, v6]) := by
          refine .inr ⟨wr.heap.size, 3, rfl, by simp, fun j v hv => ?_⟩
          rw [Bx.cell hbx (3 + j)]
          match j, hv with
          | 0, hv => simpa [ints] using hv
          | 1, hv => simpa [ints] using hv
          | 2, hv => simpa [ints] using hv
          | 3, hv => simpa [ints] using hv
          | j + 4, hv => simp [ints] at hv
        have HX := Lib.hid (maxI_c (some ⟨wr.heap.size, 3, none⟩) [v3, v4, v5, v6] 4 _ (by simp) (by simp) hrd)
        have HX2 : Hid (mxTo [v3, v4, v5, v6] ([v3, v4, v5, v6].length - 1) = max (max (max v3 v4) v5) v6) := rfl
        rw [HX2.out] at HX
        clear hrd hbx
        go_wp2_with (go_at_call 57; refine HX.out.mono ?_; rintro e w3 ⟨rfl, rfl⟩)
        all_goals
          go_roundg gi
          case rel => exact ⟨k + 1, by have := HK.out; show _ = _; omega, by go_num, by rw [HN.out]; congr 1; omega, hba, hma⟩
          case measure => omega
  · have HB : peakG n l = 0 := by rw [peakG, if_neg hv]
    have hv' : (validE n l != 0) = true := by simpa using hv
    rw [HB]
    clear HB
    generalize validE n l = ev at *
    go_enter Try.func22, Try.ntmps22
    go_wp2_with (go_at_call 24; refine HV.out.mono ?_; rintro e w1 ⟨rfl, hb1⟩)
    go_ret2
    exact ⟨rfl, hb1⟩
end Go.Proofs.Ytlhnbknilcmleaa
