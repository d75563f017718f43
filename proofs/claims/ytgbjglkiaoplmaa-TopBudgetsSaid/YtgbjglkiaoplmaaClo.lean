/- Whether a budget closes, and all its uses: package budget's. -/
import Derived.Test.YtgbjglkiaoplmaaTot
namespace Go.Proofs.Ytgbjglkiaoplmaa
open Go.RowKit

set_option maxHeartbeats 2000000 in
theorem closes_c (A : Option Addr) (l : List It) (cap : Nat) (m n d : Int) (w : World) (h : OkIs m l) (hl : l.length ≤ 6) (hm : 0 ≤ m ∧ m ≤ 2000) (hL : limB n d = true) (hr : Rd w A (cellsI l)) :
    Calls Try.prog 71 #[.slice A l.length cap, .agg #[.int .i64 n, .int .i64 d]] w fun e w' => e = .returned (.bool (closeB l n d)) ∧ Below w.heap.size w w' := by
  obtain ⟨d0, d1, n0, n1⟩ := limB_iff.1 hL
  have hf := rat_fr (parts_cnt h hl hm (Nat.le_refl _))
  have p1 := mul_in (a := n) (b := (rat (partsL l)).2) (A := 1000000) (B := 2520) ⟨n0, n1⟩ ⟨by have := hf.2.1; unfold partsL at *; omega, hf.2.2⟩
  have p2 := mul_in (a := (rat (partsL l)).1) (b := d) (A := 50000000) (B := 1000000) ⟨hf.1.1, hf.1.2⟩ ⟨by omega, d1⟩
  have HT := fun w (hr : Rd w A (cellsI l)) => Lib.hid (totalOf_c A l cap m w h hl hm hr)
  have HL := fun w => Lib.hid (less_c n d (rat (partsL l)).1 (rat (partsL l)).2 w (by omega) (by omega))
  have hc : closeB l n d = !(decide (n * (rat (partsL l)).2 < (rat (partsL l)).1 * d)) := by
    unfold closeB
    rw [Bool.eq_iff_iff, decide_eq_true_eq, Bool.not_eq_true', decide_eq_false_iff_not, lim_lt]
    omega
  rw [hc]
  generalize decide (n * (rat (partsL l)).2 < (rat (partsL l)).1 * d) = z at *
  generalize rat (partsL l) = p at *
  clear hc p1 p2 hf h hL d0 d1 n0 n1
  have hb0 := bl_alloc (Below.refl w.heap.size w) (.cells #[.int .i64 n, .int .i64 d] 30)
  have x0 : Bx (w.alloc (.cells #[.int .i64 n, .int .i64 d] 30)) w.heap.size 30 #[.int .i64 n, .int .i64 d] := Bx.new w _ _
  have hr0 := (hr.later hb0).later (w := w.alloc (.cells #[.int .i64 n, .int .i64 d] 30)) ((Below.refl (w.alloc (.cells #[.int .i64 n, .int .i64 d] 30)).heap.size _).drew)
  have hd : Below (w.alloc (.cells #[.int .i64 n, .int .i64 d] 30)).heap.size (w.alloc (.cells #[.int .i64 n, .int .i64 d] 30)) (w.alloc (.cells #[.int .i64 n, .int .i64 d] 30)).drew := (Below.refl _ _).drew
  obtain ⟨y0, y1, _, _⟩ := x0.two
  obtain ⟨z0, z1, _, _⟩ := x0.drew.two
  have HTd := Lib.hid (HT _ hr0)
  have HTW := Lib.hid (fun W (hW : Below (w.alloc (.cells #[.int .i64 n, .int .i64 d] 30)).heap.size (w.alloc (.cells #[.int .i64 n, .int .i64 d] 30)) W) => (x0.call hW).two)
  go_enter Try.func71, Try.ntmps71
  go_wp2_with (fail)
  go_region_law (first
    | (go_simp; refine HTd.out.out.mono ?_; rintro e w4 ⟨rfl, hb4⟩; have hb04 := bl_call hd hb4; obtain ⟨s0, s1, _, _⟩ := HTW.out w4 hb04; have HP4 := HL w4; try go_simp)
    | (go_simp; refine HP4.out.mono ?_; rintro e w5 ⟨rfl, hb5⟩; have hb05 := bl_call hb04 hb5; try go_simp))
  all_goals
    go_wp2_with (fail)
    go_ret
    exact ⟨rfl, bl_call hb0 hb05⟩
theorem usesOf_c (A : Option Addr) (l : List It) (cap : Nat) (w : World) (h : OkIs 8 l) (hl : l.length ≤ 6) (hr : Rd w A (cellsI l)) :
    Calls Try.prog 67 #[.slice A l.length cap] w fun e w' => e = .returned (.int .i64 (usesL l)) ∧ Below w.heap.size w w' := by
  have HA : Hid (usesL l = usesTo l l.length) := rfl
  have HS : Hid (∀ k, usesTo l (k + 1) = usesTo l k + (l.getD k it0).u) := fun k => rfl
  have H0 : Hid (usesTo l 0 = 0) := rfl
  have HB := Lib.hid (fun k (hk : k ≤ l.length) => And.intro (uses_pos h k hk) (uses_bound h k hk))
  clear h
  go_enter Try.func67, Try.ntmps67
  go_wp2_with (fail)
  go_loopg [3, 8] l.length (fun gk sv iv wr => ∃ k : Nat, Hid (k + gk = l.length) ∧ sv = .int .i64 (usesTo l k) ∧ iv = .int .i64 (k : Int) ∧ Below w.heap.size w wr)
  case atStart => exact ⟨0, by simp [Hid], by rw [H0.out], rfl, Below.refl _ _⟩
  case round =>
    obtain ⟨k, HK, rfl, rfl, hb⟩ := hrel
    rcases gk with _ | gi
    · obtain rfl : k = l.length := HK.out
      go_wp2_with (fail)
      go_ret
      exact ⟨by rw [HA.out]; rfl, hb⟩
    · have hkN : k < l.length := by have := HK.out; omega
      have hkN' : (k : Int) < (l.length : Int) := by omega
      obtain ⟨b, o, rfl, _, c0, c1, c2⟩ := (hr.later hb).itm hkN
      have hb1 := bl_alloc hb (.cells #[.int .i64 (l.getD k it0).u, .int .i64 (l.getD k it0).n, .int .i64 (l.getD k it0).d] 50)
      have HSk := Lib.hid (HS.out k)
      have hin := HB.out (k + 1) (by omega)
      rw [HSk.out] at hin
      have e : wrap64 (usesTo l k + (l.getD k it0).u) = usesTo l k + (l.getD k it0).u := IntWalk.wrap64_in _ ⟨by omega, by omega⟩
      clear hin
      generalize usesTo l k = s at *
      generalize (l.getD k it0).u = u at *
      generalize (l.getD k it0).n = n at *
      generalize (l.getD k it0).d = d at *
      go_wp2_with (fail)
      go_roundg gi
      case rel => exact ⟨k + 1, by have := HK.out; show _ = _; omega, by rw [HSk.out]; first | rfl | rw [e], by go_num, hb1⟩
      case measure => omega
end Go.Proofs.Ytgbjglkiaoplmaa
