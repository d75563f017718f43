/- Fractions: package budget's and the specification's. -/
import Derived.Test.YtgbjglkiaoplmaaLowT
namespace Go.Proofs.Ytgbjglkiaoplmaa
open Go.RowKit

def big : Int := 1000000000000000
def frV (p : Int × Int) : Value := .agg #[.int .i64 p.1, .int .i64 p.2]
theorem gcd_step (x y : Nat) : Nat.gcd (y + 1) (x % (y + 1)) = Nat.gcd x (y + 1) := by
  rw [Nat.gcd_comm x, Nat.gcd_rec (y + 1) x, Nat.gcd_comm]
theorem low_nat (n d : Nat) : (low n d).1 = (n : Int) / (Nat.gcd d n : Int) ∧ (low n d).2 = (d : Int) / (Nat.gcd d n : Int) := by
  rw [Nat.gcd_comm]; exact ⟨rfl, rfl⟩
set_option maxHeartbeats 2000000 in
theorem lowestN_c (n d : Nat) (w : World) (hn : n ≤ 1000000000000000) (hd : 0 < d) (hd2 : d ≤ 1000000000000000) :
    Calls Try.prog 100 #[.agg #[.int .i64 n, .int .i64 d]] w fun e w' => e = .returned (.agg #[.int .i64 (low n d).1, .int .i64 (low n d).2]) ∧ Below w.heap.size w w' := by
  obtain ⟨e1, e2⟩ := low_nat n d
  have H1 := Lib.hid e1
  have H2 := Lib.hid e2
  have HG : Hid (0 < Nat.gcd d n) := Nat.gcd_pos_of_pos_left _ hd
  have x0 : Bx ((w.alloc (.cells #[.int .i64 n, .int .i64 d] 78)).alloc (.cells #[.int .i64 0, .int .i64 0] 78)) w.heap.size 78 #[.int .i64 n, .int .i64 d] := (Bx.newAt rfl).alloc _
  have x1 : Bx ((w.alloc (.cells #[.int .i64 n, .int .i64 d] 78)).alloc (.cells #[.int .i64 0, .int .i64 0] 78)) (w.heap.size + 1) 78 #[.int .i64 0, .int .i64 0] := Bx.newAt (by simp)
  have hb0 := bl_alloc (bl_alloc (Below.refl w.heap.size w) (.cells #[.int .i64 n, .int .i64 d] 78)) (.cells #[.int .i64 0, .int .i64 0] 78)
  obtain ⟨y0, y1, _, _⟩ := x0.drew.two
  clear e1 e2
  go_enter Try.func100, Try.ntmps100
  go_wp2_with (fail)
  go_quiet (fail)
  go_wp2_with (fail)
  clear y0 y1
  go_loopg [3, 4] n (fun gk cv rv wr => ∃ x : Nat, rv = .int .i64 (gk : Int) ∧ cv = .int .i64 (x : Int) ∧ Hid (Nat.gcd x gk = Nat.gcd d n) ∧ Hid (x ≤ 1000000000000000 ∧ gk ≤ 1000000000000000) ∧ Bx wr w.heap.size 78 #[.int .i64 n, .int .i64 d] ∧ Bx wr (w.heap.size + 1) 78 #[.int .i64 0, .int .i64 0] ∧ Below w.heap.size w wr)
  case atStart => exact ⟨d, rfl, rfl, rfl, ⟨hd2, hn⟩, x0.call (below_drewN (Below.refl _ _) _), x1.call (below_drewN (Below.refl _ _) _), below_drewN hb0 _⟩
  case round =>
    clear x0 x1 hb0
    obtain ⟨x, rfl, rfl, HX, HR, hx0, hx1, hb⟩ := hrel
    rcases gk with _ | gi
    · have hx : x = Nat.gcd d n := by have := HX.out; rw [Nat.gcd_zero_right] at this; exact this
      have h0 : (0 : Int) < (x : Int) := by have := HG.out; omega
      rw [← hx] at H1 H2
      have hxb := HR.out.1
      have h1 : (1 : Int) ≤ (x : Int) := by omega
      have h2 : (x : Int) ≤ 1000000000000000 := by omega
      have hn0 : (0 : Int) ≤ (n : Int) := by omega
      have hd0 : (0 : Int) ≤ (d : Int) := by omega
      have hn1 : (n : Int) ≤ 1000000000000000 := by omega
      have hd1 : (d : Int) ≤ 1000000000000000 := by omega
      clear hx h0 HX HR HG hxb
      generalize (x : Int) = X at *
      have hX0 : (X == 0) = false := by rw [beq_eq_false_iff_ne]; omega
      have hbW : Below wr.heap.size wr wr.drew := (Below.refl _ _).drew
      have hX1 : ¬ X = 0 := by omega
      have Q1 : IntKind.i64.wrap ((n : Int).tdiv X) = (n : Int) / X := IntWalk.i64_quo n X ⟨hn0, by omega, h1⟩
      have Q2 : IntKind.i64.wrap ((d : Int).tdiv X) = (d : Int) / X := IntWalk.i64_quo d X ⟨hd0, by omega, h1⟩
      have W1 : wrap64 ((n : Int) / X) = (n : Int) / X := IntWalk.wrap64_in _ (by have a := Int.ediv_nonneg hn0 (show 0 ≤ X by omega); have b := Int.ediv_le_self X hn0; omega)
      have W2 : wrap64 ((d : Int) / X) = (d : Int) / X := IntWalk.wrap64_in _ (by have a := Int.ediv_nonneg hd0 (show 0 ≤ X by omega); have b := Int.ediv_le_self X hd0; omega)
      obtain ⟨y0, y1, y2, y3⟩ := hx0.drew.two
      obtain ⟨z0, z1, z2, z3⟩ := hx1.drew.two
      obtain ⟨v0, v1, v2, v3⟩ := hx1.two
      go_wp2_with (fail)
      go_region_law (fail)
      all_goals
        go_wp2_with (fail)
        have hbF := fun (u v : Value) => (bl_set (bl_set hb (g := w.heap.size + 1) (i := 0) (by omega) u) (g := w.heap.size + 1) (i := 1) (by omega) v).drew
        refine bodyPost_ret (results_cell_row rfl _ _ (w.heap.size + 1) 78 _ (0, 0) _ rfl (hx1.set2 _ _).drew Try.underlying78 rfl (by kernel_rfl)) rfl ?_
        exact ⟨by rw [IntWalk.i64_left, IntWalk.i64_left, W1, W2, H1.out, H2.out], hbF _ _⟩
    · have hne : (((gi : Int) + 1) != 0) = true := by rw [bne_iff_ne]; omega
      have hxz : (0 : Int) ≤ (x : Int) := by omega
      have HM : Hid (((x % (gi + 1) : Nat) : Int) = (x : Int) % ((gi : Int) + 1)) := by show _ = _; rw [Int.natCast_emod]; rfl
      have hb2 := fun n => below_drewN hb n
      go_wp2_with (fail)
      go_quiet (fail)
      go_wp2_with (fail)
      go_roundg (x % (gi + 1))
      case rel =>
        refine ⟨gi + 1, by rw [HM.out], rfl, ?_, ⟨HR.out.2, ?_⟩, hx0.call (below_drewN (Below.refl _ _) _), hx1.call (below_drewN (Below.refl _ _) _), below_drewN hb _⟩
        · show _ = _; rw [gcd_step]; exact HX.out
        · have h1 := Nat.mod_lt x (show 0 < gi + 1 by omega); have := HR.out.2; omega
      case measure => have h1 := Nat.mod_lt x (show 0 < gi + 1 by omega); omega
end Go.Proofs.Ytgbjglkiaoplmaa
