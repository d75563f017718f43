/- Fractions in lowest terms: package clock's and the specification's. -/
import Derived.Test.YtiffgaelndajpaaDem
import Derived.Test.YtiffgaelndajpaaClkP
import Derived.Test.YtiffgaelndajpaaLowT
namespace Go.Proofs.Ytiffgaelndajpaa
open Go.RowKit

theorem gcd_step (x y : Nat) : Nat.gcd (y + 1) (x % (y + 1)) = Nat.gcd x (y + 1) := by
  rw [Nat.gcd_comm x, Nat.gcd_rec (y + 1) x, Nat.gcd_comm]
theorem ratio_nat (n d : Nat) : (ratio n d).1 = (n : Int) / (Nat.gcd n d : Int) ∧ (ratio n d).2 = (d : Int) / (Nat.gcd n d : Int) := ⟨rfl, rfl⟩
set_option maxHeartbeats 2000000 in
theorem ratOf_c (n d : Nat) (w : World) (hn : n ≤ 1000) (hd : 0 < d) (hd2 : d ≤ 1000) :
    Calls Try.prog 68 #[.int .i64 n, .int .i64 d] w fun e w' => e = .returned (.agg #[.int .i64 (ratio n d).1, .int .i64 (ratio n d).2]) ∧ Below w.heap.size w w' := by
  obtain ⟨e1, e2⟩ := ratio_nat n d
  have H1 := Lib.hid e1
  have H2 := Lib.hid e2
  have HG : Hid (0 < Nat.gcd n d) := Nat.gcd_pos_of_pos_right _ hd
  clear e1 e2
  go_enter Try.func68, Try.ntmps68
  go_wp2_with (fail)
  go_loopg [5, 6] d (fun gk cv rv wr => ∃ x : Nat, rv = .int .i64 (gk : Int) ∧ cv = .int .i64 (x : Int) ∧ Hid (Nat.gcd x gk = Nat.gcd n d) ∧ Hid (x ≤ 1000 ∧ gk ≤ 1000) ∧ Bx wr w.heap.size 51 #[.int .i64 0, .int .i64 0] ∧ Below w.heap.size w wr)
  case atStart => exact ⟨n, rfl, rfl, rfl, ⟨hn, hd2⟩, Bx.new _ _ _, bl_alloc (Below.refl _ _) _⟩
  case round =>
    obtain ⟨x, rfl, rfl, HX, HR, hx0, hb⟩ := hrel
    obtain ⟨y0, y1, y2, y3⟩ := hx0.two
    rcases gk with _ | gi
    · have hx : x = Nat.gcd n d := by have := HX.out; rw [Nat.gcd_zero_right] at this; exact this
      have h0 : (0 : Int) < (x : Int) := by have := HG.out; omega
      rw [← hx] at H1 H2
      have hxb := HR.out.1
      have h1 : (1 : Int) ≤ (x : Int) := by omega
      have h2 : (x : Int) ≤ 1000 := by omega
      have hn0 : (0 : Int) ≤ (n : Int) := by omega
      have hd0 : (0 : Int) ≤ (d : Int) := by omega
      have hn1 : (n : Int) ≤ 1000 := by omega
      have hd1 : (d : Int) ≤ 1000 := by omega
      clear hx h0 HX HR HG hxb
      generalize (x : Int) = X at *
      have hX0 : (X == 0) = false := by rw [beq_eq_false_iff_ne]; omega
      go_wp2_with (fail)
      have hbW : Below wr.heap.size wr wr.drew := (Below.refl _ _).drew
      have hX1 : ¬ X = 0 := by omega
      have Q1 : IntKind.i64.wrap ((n : Int).tdiv X) = (n : Int) / X := IntWalk.i64_quo n X ⟨hn0, by omega, h1⟩
      have Q2 : IntKind.i64.wrap ((d : Int).tdiv X) = (d : Int) / X := IntWalk.i64_quo d X ⟨hd0, by omega, h1⟩
      have W1 : wrap64 ((n : Int) / X) = (n : Int) / X := IntWalk.wrap64_in _ (by have a := Int.ediv_nonneg hn0 (show 0 ≤ X by omega); have b := Int.ediv_le_self X hn0; omega)
      have W2 : wrap64 ((d : Int) / X) = (d : Int) / X := IntWalk.wrap64_in _ (by have a := Int.ediv_nonneg hd0 (show 0 ≤ X by omega); have b := Int.ediv_le_self X hd0; omega)
      refine wp_region_low_tail 7 (hbW) (by kernel_rfl) (by kernel_rfl) ?_
      simp only [List.take_succ_cons, List.take_zero, List.drop_succ_cons, List.drop_zero]
      repeat (first
        | go_big_quiet_skip
        | (go_big_quiet_want
           apply Exists.intro
           refine And.intro (fun W hW => ?_) ?_
           · (skip)
             go_simp
             first
               | exact rfl
               | (fail)
           try go_simp
           go_big_quiet_on))
      refine wpQuiet_nil ?_
      intro w9 hb9
      have hx9 := hx0.call hb9
      obtain ⟨y0, y1, y2, y3⟩ := hx9.two
      go_wp2_with (fail)
      have hbF := fun (u v : Value) => bl_set (bl_set (bl_call hb hb9) (g := w.heap.size) (i := 0) (Nat.le_refl _) u) (g := w.heap.size) (i := 1) (Nat.le_refl _) v
      refine bodyPost_ret (results_cell_row rfl _ _ w.heap.size 51 _ (0, 0) _ rfl (hx9.set2 _ _) Try.underlying51 rfl (by kernel_rfl)) rfl ?_
      exact ⟨by rw [W1, W2, H1.out, H2.out], hbF _ _⟩
    · have hne : (((gi : Int) + 1) != 0) = true := by rw [bne_iff_ne]; omega
      have hxz : (0 : Int) ≤ (x : Int) := by omega
      have HM : Hid (((x % (gi + 1) : Nat) : Int) = (x : Int) % ((gi : Int) + 1)) := by show _ = _; rw [Int.natCast_emod]; rfl
      have hb2 := fun n => below_drewN hb n
      go_wp2_with (fail)
      go_quiet (fail)
      go_wp2_with (fail)
      go_roundg (x % (gi + 1))
      case rel =>
        refine ⟨gi + 1, by rw [HM.out], rfl, ?_, ⟨HR.out.2, ?_⟩, hx0.call (below_drewN (Below.refl _ _) _), below_drewN hb _⟩
        · show _ = _; rw [gcd_step]; exact HX.out
        · have h1 := Nat.mod_lt x (show 0 < gi + 1 by omega); have := HR.out.2; omega
      case measure => have h1 := Nat.mod_lt x (show 0 < gi + 1 by omega); omega
set_option maxHeartbeats 2000000 in
theorem rRatio_c (n d : Nat) (w : World) (hn : n ≤ 1000) (hd : 0 < d) (hd2 : d ≤ 1000) :
    Calls Try.prog 69 #[.int .i64 n, .int .i64 d] w fun e w' => e = .returned (.agg #[.int .i64 (ratio n d).1, .int .i64 (ratio n d).2]) ∧ Below w.heap.size w w' := by
  obtain ⟨e1, e2⟩ := ratio_nat n d
  have H1 := Lib.hid e1
  have H2 := Lib.hid e2
  have HG : Hid (0 < Nat.gcd n d) := Nat.gcd_pos_of_pos_right _ hd
  clear e1 e2
  go_enter Try.func69, Try.ntmps69
  go_wp2_with (fail)
  go_loopg [5, 6] d (fun gk cv rv wr => ∃ x : Nat, rv = .int .i64 (gk : Int) ∧ cv = .int .i64 (x : Int) ∧ Hid (Nat.gcd x gk = Nat.gcd n d) ∧ Hid (x ≤ 1000 ∧ gk ≤ 1000) ∧ Bx wr w.heap.size 51 #[.int .i64 0, .int .i64 0] ∧ Below w.heap.size w wr)
  case atStart => exact ⟨n, rfl, rfl, rfl, ⟨hn, hd2⟩, Bx.new _ _ _, bl_alloc (Below.refl _ _) _⟩
  case round =>
    obtain ⟨x, rfl, rfl, HX, HR, hx0, hb⟩ := hrel
    obtain ⟨y0, y1, y2, y3⟩ := hx0.two
    rcases gk with _ | gi
    · have hx : x = Nat.gcd n d := by have := HX.out; rw [Nat.gcd_zero_right] at this; exact this
      have h0 : (0 : Int) < (x : Int) := by have := HG.out; omega
      rw [← hx] at H1 H2
      have hxb := HR.out.1
      have h1 : (1 : Int) ≤ (x : Int) := by omega
      have h2 : (x : Int) ≤ 1000 := by omega
      have hn0 : (0 : Int) ≤ (n : Int) := by omega
      have hd0 : (0 : Int) ≤ (d : Int) := by omega
      have hn1 : (n : Int) ≤ 1000 := by omega
      have hd1 : (d : Int) ≤ 1000 := by omega
      clear hx h0 HX HR HG hxb
      generalize (x : Int) = X at *
      have hX0 : (X == 0) = false := by rw [beq_eq_false_iff_ne]; omega
      go_wp2_with (fail)
      have hbW : Below wr.heap.size wr wr.drew := (Below.refl _ _).drew
      have hX1 : ¬ X = 0 := by omega
      have Q1 : IntKind.i64.wrap ((n : Int).tdiv X) = (n : Int) / X := IntWalk.i64_quo n X ⟨hn0, by omega, h1⟩
      have Q2 : IntKind.i64.wrap ((d : Int).tdiv X) = (d : Int) / X := IntWalk.i64_quo d X ⟨hd0, by omega, h1⟩
      have W1 : wrap64 ((n : Int) / X) = (n : Int) / X := IntWalk.wrap64_in _ (by have a := Int.ediv_nonneg hn0 (show 0 ≤ X by omega); have b := Int.ediv_le_self X hn0; omega)
      have W2 : wrap64 ((d : Int) / X) = (d : Int) / X := IntWalk.wrap64_in _ (by have a := Int.ediv_nonneg hd0 (show 0 ≤ X by omega); have b := Int.ediv_le_self X hd0; omega)
      refine wp_region_low_tail 7 (hbW) (by kernel_rfl) (by kernel_rfl) ?_
      simp only [List.take_succ_cons, List.take_zero, List.drop_succ_cons, List.drop_zero]
      repeat (first
        | go_big_quiet_skip
        | (go_big_quiet_want
           apply Exists.intro
           refine And.intro (fun W hW => ?_) ?_
           · (skip)
             go_simp
             first
               | exact rfl
               | (fail)
           try go_simp
           go_big_quiet_on))
      refine wpQuiet_nil ?_
      intro w9 hb9
      have hx9 := hx0.call hb9
      obtain ⟨y0, y1, y2, y3⟩ := hx9.two
      go_wp2_with (fail)
      have hbF := fun (u v : Value) => bl_set (bl_set (bl_call hb hb9) (g := w.heap.size) (i := 0) (Nat.le_refl _) u) (g := w.heap.size) (i := 1) (Nat.le_refl _) v
      refine bodyPost_ret (results_cell_row rfl _ _ w.heap.size 51 _ (0, 0) _ rfl (hx9.set2 _ _) Try.underlying51 rfl (by kernel_rfl)) rfl ?_
      exact ⟨by rw [W1, W2, H1.out, H2.out], hbF _ _⟩
    · have hne : (((gi : Int) + 1) != 0) = true := by rw [bne_iff_ne]; omega
      have hxz : (0 : Int) ≤ (x : Int) := by omega
      have HM : Hid (((x % (gi + 1) : Nat) : Int) = (x : Int) % ((gi : Int) + 1)) := by show _ = _; rw [Int.natCast_emod]; rfl
      have hb2 := fun n => below_drewN hb n
      go_wp2_with (fail)
      go_roundg (x % (gi + 1))
      case rel =>
        refine ⟨gi + 1, by rw [HM.out], rfl, ?_, ⟨HR.out.2, ?_⟩, hx0, hb⟩
        · show _ = _; rw [gcd_step]; exact HX.out
        · have h1 := Nat.mod_lt x (show 0 < gi + 1 by omega); have := HR.out.2; omega
      case measure => have h1 := Nat.mod_lt x (show 0 < gi + 1 by omega); omega
end Go.Proofs.Ytiffgaelndajpaa
