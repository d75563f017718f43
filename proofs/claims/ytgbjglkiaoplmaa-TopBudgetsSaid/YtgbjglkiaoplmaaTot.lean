/- Shares and totals, and whether a budget closes: package budget's. -/
import Derived.Test.YtgbjglkiaoplmaaRva
namespace Go.Proofs.Ytgbjglkiaoplmaa
open Go.RowKit

theorem mul_in {a b A B : Int} (ha : 0 ≤ a ∧ a ≤ A) (hb : 0 ≤ b ∧ b ≤ B) : 0 ≤ a * b ∧ a * b ≤ A * B :=
  ⟨Int.mul_nonneg ha.1 hb.1, Int.mul_le_mul ha.2 hb.2 hb.1 (Int.le_trans ha.1 ha.2)⟩
/-- Parts that can be counted. -/
def Cnt (p : Int) : Prop := 0 ≤ p ∧ p ≤ 50000000
theorem rat_fr {p : Int} (h : Cnt p) : (0 ≤ (rat p).1 ∧ (rat p).1 ≤ 50000000) ∧ 0 < (rat p).2 ∧ (rat p).2 ≤ 2520 := by
  have h1 := rat_num h.1
  have h2 := rat_den p
  have := h.2
  exact ⟨⟨h1.1, by omega⟩, h2.1, h2.2⟩
theorem share_cnt {m : Int} {x : It} (h : OkI m x) (hm : 0 ≤ m ∧ m ≤ 2000) : Cnt (shareP x) := by
  have := h.share hm.1
  have h2 : m * 2520 ≤ 2000 * 2520 := Int.mul_le_mul_of_nonneg_right hm.2 (by decide)
  exact ⟨this.1, by omega⟩
theorem parts_cnt {m : Int} {l : List It} (h : OkIs m l) (hl : l.length ≤ 6) (hm : 0 ≤ m ∧ m ≤ 2000) {k : Nat} (hk : k ≤ l.length) : Cnt (partsTo l k) := by
  have := parts_in hm.1 h k hk
  have h2 : m * 2520 ≤ 2000 * 2520 := Int.mul_le_mul_of_nonneg_right hm.2 (by decide)
  have h3 : (k : Int) * (m * 2520) ≤ 6 * (2000 * 2520) := (mul_in ⟨by omega, by omega⟩ ⟨Int.mul_nonneg hm.1 (by decide), h2⟩).2
  exact ⟨this.1, by omega⟩
set_option maxHeartbeats 2000000 in
theorem shareOf_c (x : It) (m : Int) (w : World) (h : OkI m x) (hm : 0 ≤ m ∧ m ≤ 2000) :
    Calls Try.prog 61 #[.agg #[.int .i64 x.u, .int .i64 x.n, .int .i64 x.d]] w fun e w' => e = .returned (.agg #[.int .i64 (rat (shareP x)).1, .int .i64 (rat (shareP x)).2]) ∧ Below w.heap.size w w' := by
  obtain ⟨d1, d2, n0, n1⟩ := h.den
  have hp := mul_in (a := x.u) (b := x.n) (A := 2000) (B := 10) ⟨h.u0, by have := h.um; omega⟩ ⟨n0, by omega⟩
  have HT := fun w => Lib.hid (times_c x.u 1 x.n x.d w (by omega) (by omega))
  have e : low (x.u * x.n) (1 * x.d) = rat (shareP x) := by rw [Int.one_mul]; exact share_low d1 d2
  rw [e] at HT
  have hx := (Bx.newAt (w := w.alloc (.cells #[.int .i64 x.u, .int .i64 x.n, .int .i64 x.d] 50)) (T := 78) (cs := #[.int .i64 0, .int .i64 0]) (g := w.heap.size + 1) (by simp))
  have hb0 := bl_alloc (bl_alloc (Below.refl w.heap.size w) (.cells #[.int .i64 x.u, .int .i64 x.n, .int .i64 x.d] 50)) (.cells #[.int .i64 0, .int .i64 0] 78)
  clear e hp h
  generalize rat (shareP x) = p at *
  go_enter Try.func61, Try.ntmps61
  go_wp2_with (fail)
  refine (HT _).out.mono ?_
  rintro e w1 ⟨rfl, hb1⟩
  have hx1 := hx.call hb1
  obtain ⟨z0, z1, z2, z3⟩ := hx1.two
  have hbF := fun (u v : Value) => bl_set (bl_set (bl_call hb0 hb1) (g := w.heap.size + 1) (i := 0) (by omega) u) (g := w.heap.size + 1) (i := 1) (by omega) v
  go_wp2_with (fail)
  refine bodyPost_ret (results_cell_row rfl _ _ (w.heap.size + 1) 78 _ (0, 0) _ rfl (hx1.set2 _ _) Try.underlying78 rfl (by kernel_rfl)) rfl ?_
  exact ⟨rfl, hbF _ _⟩
set_option maxRecDepth 100000 in
set_option maxHeartbeats 4000000 in
theorem totalOf_c (A : Option Addr) (l : List It) (cap : Nat) (m : Int) (w : World) (h : OkIs m l) (hl : l.length ≤ 6) (hm : 0 ≤ m ∧ m ≤ 2000) (hr : Rd w A (cellsI l)) :
    Calls Try.prog 62 #[.slice A l.length cap] w fun e w' => e = .returned (.agg #[.int .i64 (rat (partsL l)).1, .int .i64 (rat (partsL l)).2]) ∧ Below w.heap.size w w' := by
  have HA : Hid (partsL l = partsTo l l.length) := rfl
  have H0 : Hid (rat (partsTo l 0) = (0, 1)) := rat_zero
  have HS : Hid (∀ k, partsTo l (k + 1) = partsTo l k + shareP (l.getD k it0)) := fun k => rfl
  have HSH := Lib.hid fun k (hk : k < l.length) w => Lib.hid (shareOf_c (l.getD k it0) m w (h k hk) hm)
  have HPL := Lib.hid fun k (hk : k < l.length) w => (by
    have f1 := rat_fr (parts_cnt h hl hm (Nat.le_of_lt hk))
    have f2 := rat_fr (share_cnt (h k hk) hm)
    have h1 := mul_in (a := (rat (partsTo l k)).1) (b := (rat (shareP (l.getD k it0))).2) f1.1 ⟨by omega, f2.2.2⟩
    have h2 := mul_in (a := (rat (shareP (l.getD k it0))).1) (b := (rat (partsTo l k)).2) f2.1 ⟨by omega, f1.2.2⟩
    have h3 := mul_in (a := (rat (partsTo l k)).2) (b := (rat (shareP (l.getD k it0))).2) ⟨by omega, f1.2.2⟩ ⟨by omega, f2.2.2⟩
    have h4 := Int.mul_pos f1.2.1 f2.2.1
    have := Lib.hid (plus_c (rat (partsTo l k)).1 (rat (partsTo l k)).2 (rat (shareP (l.getD k it0))).1 (rat (shareP (l.getD k it0))).2 w (by omega) (by omega) (by omega))
    rw [rat_plus] at this
    exact this : Hid (Calls Try.prog 99 #[.agg #[.int .i64 (rat (partsTo l k)).1, .int .i64 (rat (partsTo l k)).2], .agg #[.int .i64 (rat (shareP (l.getD k it0))).1, .int .i64 (rat (shareP (l.getD k it0))).2]] w fun e w' => e = .returned (.agg #[.int .i64 (rat (partsTo l k + shareP (l.getD k it0))).1, .int .i64 (rat (partsTo l k + shareP (l.getD k it0))).2]) ∧ Below w.heap.size w w'))
  have x0 : Bx ((w.alloc (.cells #[.int .i64 0, .int .i64 0] 78)).alloc (.cells #[.int .i64 0, .int .i64 1] 78)) w.heap.size 78 #[.int .i64 0, .int .i64 0] := (Bx.newAt rfl).alloc _
  have x1 : Bx ((w.alloc (.cells #[.int .i64 0, .int .i64 0] 78)).alloc (.cells #[.int .i64 0, .int .i64 1] 78)) (w.heap.size + 1) 78 #[.int .i64 0, .int .i64 1] := Bx.newAt (by simp)
  have hb0 := bl_alloc (bl_alloc (Below.refl w.heap.size w) (.cells #[.int .i64 0, .int .i64 0] 78)) (.cells #[.int .i64 0, .int .i64 1] 78)
  clear h hm
  go_enter Try.func62, Try.ntmps62
  go_wp2_with (fail)
  go_loopg [9] l.length (fun gk iv wr => ∃ k : Nat, Hid (k + gk = l.length) ∧ iv = .int .i64 (k : Int) ∧ Bx wr w.heap.size 78 #[.int .i64 0, .int .i64 0] ∧ Bx wr (w.heap.size + 1) 78 #[.int .i64 (rat (partsTo l k)).1, .int .i64 (rat (partsTo l k)).2] ∧ Below w.heap.size w wr)
  case atStart => exact ⟨0, by simp [Hid], rfl, x0, by rw [H0.out]; exact x1, hb0⟩
  case round =>
    clear x0 x1 hb0
    obtain ⟨k, HK, rfl, x0, x1, hb⟩ := hrel
    rcases gk with _ | gi
    · obtain rfl : k = l.length := HK.out
      rw [← HA.out] at x1
      obtain ⟨y0, y1, _, _⟩ := x1.two
      obtain ⟨z0, z1, z2, z3⟩ := x0.two
      have hbF := fun (u v : Value) => bl_set (bl_set hb (g := w.heap.size) (i := 0) (by omega) u) (g := w.heap.size) (i := 1) (by omega) v
      go_wp2_with (fail)
      refine bodyPost_ret (results_cell_row rfl _ _ w.heap.size 78 _ (0, 0) _ rfl (x0.set2 _ _) Try.underlying78 rfl (by kernel_rfl)) rfl ?_
      exact ⟨rfl, hbF _ _⟩
    · have hkN : k < l.length := by have := HK.out; omega
      have hkN' : (k : Int) < (l.length : Int) := by omega
      obtain ⟨b, o, rfl, _, c0, c1, c2⟩ := (hr.later hb).itm hkN
      have HSk := Lib.hid (HSH.out k hkN)
      have HPk := Lib.hid (HPL.out k hkN)
      have HNk := Lib.hid (HS.out k)
      generalize hx : l.getD k it0 = x at *
      generalize hp : rat (partsTo l k) = p at *
      generalize hq : rat (shareP x) = q at *
      generalize hs : rat (partsTo l k + shareP x) = s at *
      have HSS : Hid (rat (partsTo l (k + 1)) = s) := by show _ = _; rw [HNk.out]; exact hs
      clear hp hq hs hx HNk
      have hbA := bl_alloc hb (.cells #[.int .i64 x.u, .int .i64 x.n, .int .i64 x.d] 50)
      have xi : Bx (wr.alloc (.cells #[.int .i64 x.u, .int .i64 x.n, .int .i64 x.d] 50)) wr.heap.size 50 #[.int .i64 x.u, .int .i64 x.n, .int .i64 x.d] := Bx.new wr _ _
      have x0A := x0.alloc (.cells #[.int .i64 x.u, .int .i64 x.n, .int .i64 x.d] 50)
      have x1A := x1.alloc (.cells #[.int .i64 x.u, .int .i64 x.n, .int .i64 x.d] 50)
      have hd : Below (wr.alloc (.cells #[.int .i64 x.u, .int .i64 x.n, .int .i64 x.d] 50)).heap.size (wr.alloc (.cells #[.int .i64 x.u, .int .i64 x.n, .int .i64 x.d] 50)) (wr.alloc (.cells #[.int .i64 x.u, .int .i64 x.n, .int .i64 x.d] 50)).drew := (Below.refl _ _).drew
      obtain ⟨i0, i1, i2, _, _, _⟩ := xi.drew.three
      obtain ⟨t0, t1, _, _⟩ := x1A.drew.two
      have HTW := Lib.hid (fun W (hW : Below (wr.alloc (.cells #[.int .i64 x.u, .int .i64 x.n, .int .i64 x.d] 50)).heap.size (wr.alloc (.cells #[.int .i64 x.u, .int .i64 x.n, .int .i64 x.d] 50)) W) => (x1A.call hW).two)
      have HSd := HSk.out (wr.alloc (.cells #[.int .i64 x.u, .int .i64 x.n, .int .i64 x.d] 50)).drew
      have hw1 : w.heap.size ≤ w.heap.size + 1 := by omega
      clear HSk x0 x1
      go_wp2_with (fail)
      go_region_law (first
        | (go_simp; refine HSd.out.mono ?_; rintro e w4 ⟨rfl, hb4⟩; have hb04 := bl_call hd hb4; obtain ⟨s0, s1, s2, s3⟩ := HTW.out w4 hb04; have HP4 := HPk.out w4; try go_simp)
        | (go_simp; refine HP4.out.mono ?_; rintro e w5 ⟨rfl, hb5⟩; have hb05 := bl_call hb04 hb5; obtain ⟨r0, r1, r2, r3⟩ := HTW.out w5 hb05; try go_simp))
      all_goals
        go_wp2_with (fail)
        go_roundg gi
        case rel =>
          refine ⟨k + 1, by have := HK.out; show _ = _; omega, by go_num, ((x0A.call hb05).far (by omega) _).far (by omega) _, ?_, bl_set (bl_set (bl_call hbA hb05) hw1 _) hw1 _⟩
          rw [HSS.out]
          exact (x1A.call hb05).set2 _ _
        case measure => omega
end Go.Proofs.Ytgbjglkiaoplmaa
