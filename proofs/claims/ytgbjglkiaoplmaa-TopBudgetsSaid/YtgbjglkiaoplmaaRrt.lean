/- Fractions, parts and totals: the specification's. -/
import Derived.Test.YtgbjglkiaoplmaaChn
namespace Go.Proofs.Ytgbjglkiaoplmaa
open Go.RowKit

set_option maxHeartbeats 2000000 in
theorem rRatioN_c (n d : Nat) (w : World) (hn : n ≤ 1000000000000000) (hd : 0 < d) (hd2 : d ≤ 1000000000000000) :
    Calls Try.prog 55 #[.int .i64 n, .int .i64 d] w fun e w' => e = .returned (.agg #[.int .i64 (low n d).1, .int .i64 (low n d).2]) ∧ Below w.heap.size w w' := by
  obtain ⟨e1, e2⟩ : (low n d).1 = (n : Int) / (Nat.gcd n d : Int) ∧ (low n d).2 = (d : Int) / (Nat.gcd n d : Int) := ⟨rfl, rfl⟩
  have H1 := Lib.hid e1
  have H2 := Lib.hid e2
  have HG : Hid (0 < Nat.gcd n d) := Nat.gcd_pos_of_pos_right _ hd
  clear e1 e2
  go_enter Try.func55, Try.ntmps55
  go_wp2_with (fail)
  go_loopg [5, 6] d (fun gk cv rv wr => ∃ x : Nat, rv = .int .i64 (gk : Int) ∧ cv = .int .i64 (x : Int) ∧ Hid (Nat.gcd x gk = Nat.gcd n d) ∧ Hid (x ≤ 1000000000000000 ∧ gk ≤ 1000000000000000) ∧ Bx wr w.heap.size 30 #[.int .i64 0, .int .i64 0] ∧ Below w.heap.size w wr)
  case atStart => exact ⟨n, rfl, rfl, rfl, ⟨hn, hd2⟩, Bx.new _ _ _, bl_alloc (Below.refl _ _) _⟩
  case round =>
    obtain ⟨x, rfl, rfl, HX, HR, hx0, hb⟩ := hrel
    obtain ⟨y0, y1, y2, y3⟩ := hx0.two
    rcases gk with _ | gi
    · have hx : x = Nat.gcd n d := by have := HX.out; rw [Nat.gcd_zero_right] at this; exact this
      have h0 : (0 : Int) < (x : Int) := by have := HG.out; omega
      rw [← hx] at H1 H2
      have hxb := HR.out.1
      have h1 : (1 : Int) ≤ (x : Int) := by omega
      have h2 : (x : Int) ≤ 1000000000000000 := by omega
      have hn0 : (0 : Int) ≤ (n : Int) := by omega
      have hd0 : (0 : Int) ≤ (d : Int) := by omega
      have hn1 : (n : Int) ≤ 1000000000000000 := by omega
      have hd1 : (d : Int) ≤ 1000000000000000 := by omega
      clear hx h0 HX HR HG hxb
      generalize (x : Int) = X at *
      have hX0 : (X == 0) = false := by rw [beq_eq_false_iff_ne]; omega
      go_wp2_with (fail)
      have hbW : Below wr.heap.size wr wr.drew := (Below.refl _ _).drew
      have hX1 : ¬ X = 0 := by omega
      have Q1 : IntKind.i64.wrap ((n : Int).tdiv X) = (n : Int) / X := IntWalk.i64_quo n X ⟨hn0, by omega, h1⟩
      have Q2 : IntKind.i64.wrap ((d : Int).tdiv X) = (d : Int) / X := IntWalk.i64_quo d X ⟨hd0, by omega, h1⟩
      have W1 : wrap64 ((n : Int) / X) = (n : Int) / X := IntWalk.wrap64_in _ (by have a := Int.ediv_nonneg hn0 (show 0 ≤ X by omega); have b := Int.ediv_le_self X hn0; omega)
      have W2 : wrap64 ((d : Int) / X) = (d : Int) / X := IntWalk.wrap64_in _ (by have a := Int.ediv_nonneg hd0 (show 0 ≤ X by omega); have b := Int.ediv_le_self X hd0; omega)
      refine wp_region_low_tail 7 (hbW) (by kernel_rfl) (by kernel_rfl) ?_
      simp only [List.take_succ_cons, List.take_zero, List.drop_succ_cons, List.drop_zero]
      repeat (first
        | go_big_quiet_skip
        | (go_big_quiet_want
           apply Exists.intro
           refine And.intro (fun W hW => ?_) ?_
           · (skip)
             go_simp
             first
               | exact rfl
               | (fail)
           try go_simp
           go_big_quiet_on))
      refine wpQuiet_nil ?_
      intro w9 hb9
      have hx9 := hx0.call hb9
      obtain ⟨y0, y1, y2, y3⟩ := hx9.two
      go_wp2_with (fail)
      have hbF := fun (u v : Value) => bl_set (bl_set (bl_call hb hb9) (g := w.heap.size) (i := 0) (Nat.le_refl _) u) (g := w.heap.size) (i := 1) (Nat.le_refl _) v
      refine bodyPost_ret (results_cell_row rfl _ _ w.heap.size 30 _ (0, 0) _ rfl (hx9.set2 _ _) Try.underlying30 rfl (by kernel_rfl)) rfl ?_
      exact ⟨by rw [W1, W2, H1.out, H2.out], hbF _ _⟩
    · have hne : (((gi : Int) + 1) != 0) = true := by rw [bne_iff_ne]; omega
      have hxz : (0 : Int) ≤ (x : Int) := by omega
      have HM : Hid (((x % (gi + 1) : Nat) : Int) = (x : Int) % ((gi : Int) + 1)) := by show _ = _; rw [Int.natCast_emod]; rfl
      have hb2 := fun n => below_drewN hb n
      go_wp2_with (fail)
      go_roundg (x % (gi + 1))
      case rel =>
        refine ⟨gi + 1, by rw [HM.out], rfl, ?_, ⟨HR.out.2, ?_⟩, hx0, hb⟩
        · show _ = _; rw [gcd_step]; exact HX.out
        · have h1 := Nat.mod_lt x (show 0 < gi + 1 by omega); have := HR.out.2; omega
      case measure => have h1 := Nat.mod_lt x (show 0 < gi + 1 by omega); omega
theorem rRatio_c (n d : Int) (w : World) (hn : 0 ≤ n ∧ n ≤ 1000000000000000) (hd : 0 < d ∧ d ≤ 1000000000000000) :
    Calls Try.prog 55 #[.int .i64 n, .int .i64 d] w fun e w' => e = .returned (.agg #[.int .i64 (low n d).1, .int .i64 (low n d).2]) ∧ Below w.heap.size w w' := by
  obtain ⟨a, rfl⟩ : ∃ a : Nat, n = (a : Int) := ⟨n.toNat, by omega⟩
  obtain ⟨c, rfl⟩ : ∃ c : Nat, d = (c : Int) := ⟨d.toNat, by omega⟩
  exact rRatioN_c a c w (by omega) (by omega) (by omega)
set_option maxRecDepth 100000 in
set_option maxHeartbeats 4000000 in
theorem rparts_c (A : Option Addr) (l : List It) (cap : Nat) (m : Int) (w : World) (h : OkIs m l) (hl : l.length ≤ 6) (hm : 0 ≤ m ∧ m ≤ 2000) (hr : Rd w A (cellsI l)) :
    Calls Try.prog 63 #[.slice A l.length cap] w fun e w' => e = .returned (.int .i64 (partsL l)) ∧ Below w.heap.size w w' := by
  have HA : Hid (partsL l = partsTo l l.length) := rfl
  have HS : Hid (∀ k, partsTo l (k + 1) = partsTo l k + (l.getD k it0).u * part (l.getD k it0).n (l.getD k it0).d) := fun k => rfl
  have H0 : Hid (partsTo l 0 = 0) := rfl
  have HB := Lib.hid (fun k (hk : k ≤ l.length) => parts_cnt h hl hm hk)
  have HSH := Lib.hid (fun k (hk : k < l.length) => share_cnt (h k hk) hm)
  have HP := Lib.hid (fun k (hk : k < l.length) w => Lib.hid (part_c (l.getD k it0).n (l.getD k it0).d w (h k hk).r))
  clear h
  go_enter Try.func63, Try.ntmps63
  go_wp2_with (fail)
  go_loopg [3, 4] l.length (fun gk sv iv wr => ∃ k : Nat, Hid (k + gk = l.length) ∧ sv = .int .i64 (partsTo l k) ∧ iv = .int .i64 (k : Int) ∧ Below w.heap.size w wr)
  case atStart => exact ⟨0, by simp [Hid], by rw [H0.out], rfl, Below.refl _ _⟩
  case round =>
    obtain ⟨k, HK, rfl, rfl, hb⟩ := hrel
    rcases gk with _ | gi
    · obtain rfl : k = l.length := HK.out
      go_wp2_with (fail)
      go_ret
      exact ⟨by rw [HA.out]; rfl, hb⟩
    · have hkN : k < l.length := by have := HK.out; omega
      have hkN' : (k : Int) < (l.length : Int) := by omega
      obtain ⟨b, o, rfl, HI⟩ := hr.itms hkN
      replace HI := Lib.hid HI
      have HSk := Lib.hid (HS.out k)
      have HPk := Lib.hid (HP.out k hkN)
      have hin := HB.out (k + 1) (by omega)
      have hsh := HSH.out k hkN
      unfold shareP at hsh
      rw [HSk.out] at hin
      have e1 : wrap64 ((l.getD k it0).u * part (l.getD k it0).n (l.getD k it0).d) = (l.getD k it0).u * part (l.getD k it0).n (l.getD k it0).d := IntWalk.wrap64_in _ (by unfold Cnt at hsh; omega)
      have e2 : wrap64 (partsTo l k + (l.getD k it0).u * part (l.getD k it0).n (l.getD k it0).d) = partsTo l k + (l.getD k it0).u * part (l.getD k it0).n (l.getD k it0).d := IntWalk.wrap64_in _ (by unfold Cnt at hin; omega)
      clear hin hsh
      generalize partsTo l k = s at *
      generalize part (l.getD k it0).n (l.getD k it0).d = p at *
      generalize (l.getD k it0).u = u at *
      generalize (l.getD k it0).n = n at *
      generalize (l.getD k it0).d = d at *
      have hd : Below wr.heap.size wr wr.drew := (Below.refl _ _).drew
      go_wp2_with (fail)
      refine wp_region_low (hd) (by kernel_rfl) (by kernel_rfl) ?_
      repeat (first
        | go_big_quiet_skip
        | (go_big_quiet_want
           apply Exists.intro
           refine And.intro (fun W hW => ?_) ?_
           · (obtain ⟨cc0, cc1, cc2⟩ := HI.out W (bl_call hb hW))
             go_simp
             first
               | exact rfl
               | (refine (HPk.out _).out.mono ?_; rintro e w4 ⟨rfl, hb4⟩; exact ⟨rfl, bl_call hW hb4⟩)
           try go_simp
           go_big_quiet_on))
      refine wpQuiet_nil ?_
      intro w9 hb9
      go_wp2_with (fail)
      go_roundg gi
      case rel => exact ⟨k + 1, by have := HK.out; show _ = _; omega, by rw [HSk.out]; rw [IntWalk.i64_left, IntWalk.i64_left, e1, e2], by go_num, bl_call hb hb9⟩
      case measure => omega
end Go.Proofs.Ytgbjglkiaoplmaa
