/- The steepest way: the specification's. -/
import Derived.Test.YtbbhaongakmhpaaSte
import Derived.Test.YtbbhaongakmhpaaRver
namespace Go.Proofs.Ytbbhaongakmhpaa
open Go.RowKit

/-- What a round does. -/
theorem rst_next {l : List T3} (hl : Ok l) {i k : Nat} (hi : i < l.length) (hk : k < l.length) :
    (0 ≤ (stRow l i (stTo l i) k).1 ∧ (stRow l i (stTo l i) k).1 ≤ 2000 ∧ 1 ≤ (stRow l i (stTo l i) k).2 ∧ (stRow l i (stTo l i) k).2 ≤ 1000) ∧
    (i = k → stRow l i (stTo l i) (k + 1) = stRow l i (stTo l i) k) ∧
    (i ≠ k → ¬ (stRow l i (stTo l i) k).1 * farI (tm l i) (tm l k) < (lw l i - hg l k) * (stRow l i (stTo l i) k).2 → stRow l i (stTo l i) (k + 1) = stRow l i (stTo l i) k) ∧
    (i ≠ k → (stRow l i (stTo l i) k).1 * farI (tm l i) (tm l k) < (lw l i - hg l k) * (stRow l i (stTo l i) k).2 → stRow l i (stTo l i) (k + 1) = (lw l i - hg l k, farI (tm l i) (tm l k))) := by
  have hs := steep_row hl hi (steep_to hl (i := i) (by omega)) (k := k) (by omega)
  have hstep : stRow l i (stTo l i) (k + 1) = stS l i k (stRow l i (stTo l i) k) := rfl
  refine ⟨⟨hs.num, hs.num1, hs.den, hs.den1⟩, fun h => ?_, fun h hn => ?_, fun h hy => ?_⟩
  · rw [hstep, stS, if_neg (fun x => x.1 h)]
  · rw [hstep, stS, if_neg (fun x => hn x.2)]
  · rw [hstep, stS, if_pos ⟨h, hy⟩]
theorem nat_eq {i k : Nat} (h : i = k) : (((i : Nat) : Int) == (k : Int)) = true := by subst h; simp
theorem nat_eq' {i k : Nat} (h : ¬ i = k) : (((i : Nat) : Int) == (k : Int)) = false := by rw [beq_eq_false_iff_ne]; omega
set_option maxRecDepth 100000 in
set_option maxHeartbeats 8000000 in
theorem rSteepest_c (A : Option Addr) (l : List T3) (cap : Nat) (w : World) (hlen : l.length ≤ 1000) (hr : Rd w A (cellsT l)) :
    Calls Try.prog 30 #[.slice A l.length cap] w fun e w' => e = .returned (.tuple #[.agg #[.int .i64 (steG l).1, .int .i64 (steG l).2], .int .i64 (validE l)]) ∧ Below w.heap.size w w' := by
  have x0 : Bx (w.alloc (.cells #[.int .i64 0, .int .i64 0] 39)) w.heap.size 39 #[.int .i64 0, .int .i64 0] := Bx.new _ _ _
  have b0 := bl_alloc (Below.refl w.heap.size w) (.cells #[.int .i64 0, .int .i64 0] 39)
  have HV := Lib.hid (rvalidate_c A l cap _ hlen (hr.later b0))
  by_cases hv : validE l = 0
  · have ho := validE_ok.1 hv
    have HN := Lib.hid (fun i k (hi : i < l.length) (hk : k < l.length) => rst_next ho hi hk)
    have HFT := Lib.hid (ho.fit (r := 0) (by omega) (by omega))
    have HSA := Lib.hid (steep_all ho)
    rw [steG, if_pos hv, hv]
    rw [hv] at HV
    clear hv ho
    have HL : Hid (stL l = stTo l l.length) := rfl
    generalize stL l = res at HL HSA ⊢
    go_enter Try.func30, Try.ntmps30
    go_wp2_with (go_at_call 24; refine HV.out.mono ?_; rintro e w1 ⟨rfl, hb1⟩)
    have x1 := x0.call hb1
    have b1 := bl_call b0 hb1
    clear x0 b0 hb1 HV
    go_loopg [5, 6, 7] l.length (fun gk nv dv iv wr => ∃ i : Nat, Hid (i + gk = l.length) ∧ iv = .int .i64 (i : Int) ∧ nv = .int .i64 (stTo l i).1 ∧ dv = .int .i64 (stTo l i).2 ∧ Bx wr w.heap.size 39 #[.int .i64 0, .int .i64 0] ∧ Below w.heap.size w wr)
    case atStart => exact ⟨0, by simp [Hid], rfl, rfl, rfl, x1, b1⟩
    case round =>
      obtain ⟨i, HK, rfl, rfl, rfl, hx, hb⟩ := hrel
      clear x1 b1
      rcases gk with _ | gi
      · obtain rfl : i = l.length := HK.out
        rw [← HL.out]
        obtain ⟨a1, a2, a3, a4⟩ : 0 ≤ res.1 ∧ res.1 ≤ 2000 ∧ 1 ≤ res.2 ∧ res.2 ≤ 1000 := ⟨HSA.out.num, HSA.out.num1, HSA.out.den, HSA.out.den1⟩
        obtain ⟨r1, r2⟩ := res
        simp only [] at a1 a2 a3 a4
        obtain ⟨n, rfl⟩ : ∃ n : Nat, r1 = (n : Int) := ⟨r1.toNat, (Int.toNat_of_nonneg a1).symm⟩
        obtain ⟨d, rfl⟩ : ∃ d : Nat, r2 = (d : Int) := ⟨r2.toNat, (Int.toNat_of_nonneg (by omega)).symm⟩
        obtain ⟨e1, e2⟩ := ratio_nat n d
        have H1 := Lib.hid e1
        have H2 := Lib.hid e2
        have HG : Hid (0 < Nat.gcd n d) := Nat.gcd_pos_of_pos_right _ (by omega)
        clear e1 e2
        have hn : n ≤ 2000 := by omega
        have hd2 : d ≤ 2000 := by omega
        clear a1 a2 a3 a4 HL HSA
        go_wp2_with (fail)
        go_loopg [11, 12] d (fun gk cv rv wr => ∃ x : Nat, rv = .int .i64 (gk : Int) ∧ cv = .int .i64 (x : Int) ∧ Hid (Nat.gcd x gk = Nat.gcd n d) ∧ Hid (x ≤ 2000 ∧ gk ≤ 2000) ∧ Bx wr w.heap.size 39 #[.int .i64 0, .int .i64 0] ∧ Below w.heap.size w wr)
        case atStart => exact ⟨n, rfl, rfl, rfl, ⟨hn, hd2⟩, hx, hb⟩
        case round =>
          obtain ⟨x, rfl, rfl, HX, HR, hx0, hb⟩ := hrel
          obtain ⟨y0, y1, y2, y3⟩ := hx0.two
          rcases gk with _ | gi
          · have hx : x = Nat.gcd n d := by have := HX.out; rw [Nat.gcd_zero_right] at this; exact this
            have h0 : (0 : Int) < (x : Int) := by have := HG.out; omega
            rw [← hx] at H1 H2
            have hxb := HR.out.1
            have h1 : (1 : Int) ≤ (x : Int) := by omega
            have h2 : (x : Int) ≤ 2000 := by omega
            have hn0 : (0 : Int) ≤ (n : Int) := by omega
            have hd0 : (0 : Int) ≤ (d : Int) := by omega
            have hn1 : (n : Int) ≤ 2000 := by omega
            have hd1 : (d : Int) ≤ 2000 := by omega
            clear hx h0 HX HR HG hxb
            generalize (x : Int) = X at *
            have hX0 : (X == 0) = false := by rw [beq_eq_false_iff_ne]; omega
            go_wp2_with (fail)
            have hbW : Below wr.heap.size wr wr.drew := (Below.refl _ _).drew
            have hX1 : ¬ X = 0 := by omega
            have Q1 : IntKind.i64.wrap ((n : Int).tdiv X) = (n : Int) / X := IntWalk.i64_quo n X ⟨hn0, by omega, h1⟩
            have Q2 : IntKind.i64.wrap ((d : Int).tdiv X) = (d : Int) / X := IntWalk.i64_quo d X ⟨hd0, by omega, h1⟩
            have W1 : wrap64 ((n : Int) / X) = (n : Int) / X := IntWalk.wrap64_in _ (by have a := Int.ediv_nonneg hn0 (show 0 ≤ X by omega); have b := Int.ediv_le_self X hn0; omega)
            have W2 : wrap64 ((d : Int) / X) = (d : Int) / X := IntWalk.wrap64_in _ (by have a := Int.ediv_nonneg hd0 (show 0 ≤ X by omega); have b := Int.ediv_le_self X hd0; omega)
            refine wp_region_low_tail 7 (hbW) (by kernel_rfl) (by kernel_rfl) ?_
            simp only [List.take_succ_cons, List.take_zero, List.drop_succ_cons, List.drop_zero]
            repeat (first
              | go_big_quiet_skip
              | (go_big_quiet_want
                 apply Exists.intro
                 refine And.intro (fun W hW => ?_) ?_
                 · (skip)
                   go_simp
                   first
                     | exact rfl
                     | (fail)
                 try go_simp
                 go_big_quiet_on))
            refine wpQuiet_nil ?_
            intro w9 hb9
            have hx9 := hx0.call hb9
            obtain ⟨y0, y1, y2, y3⟩ := hx9.two
            go_wp2_with (fail)
            have hbF := fun (u v : Value) => bl_set (bl_set (bl_call hb hb9) (g := w.heap.size) (i := 0) (Nat.le_refl _) u) (g := w.heap.size) (i := 1) (Nat.le_refl _) v
            refine bodyPost_ret (results_cell_tmp rfl _ _ w.heap.size 39 _ (0, 0) _ _ rfl rfl (hx9.set2 _ _) Try.underlying39 rfl (by kernel_rfl)) rfl ?_
            exact ⟨by rw [W1, W2, H1.out, H2.out]; rfl, hbF _ _⟩
          · have hne : (0 : Int) < ((gi : Int) + 1) := by omega
            have hxz : (0 : Int) ≤ (x : Int) := by omega
            have HM : Hid (((x % (gi + 1) : Nat) : Int) = (x : Int) % ((gi : Int) + 1)) := by show _ = _; rw [Int.natCast_emod]; rfl
            go_wp2_with (fail)
            go_roundg (x % (gi + 1))
            case rel =>
              refine ⟨gi + 1, by rw [HM.out], rfl, ?_, ⟨HR.out.2, ?_⟩, hx0, hb⟩
              · show _ = _; rw [gcd_step]; exact HX.out
              · have h1 := Nat.mod_lt x (show 0 < gi + 1 by omega); have := HR.out.2; omega
            case measure => have h1 := Nat.mod_lt x (show 0 < gi + 1 by omega); omega
      · have hlt : i < l.length := by have := HK.out; omega
        have hlt' : (i : Int) < (l.length : Int) := by omega
        have HS0 : Hid (stTo l i = stRow l i (stTo l i) 0) := rfl
        have HT := Lib.hid (HFT.out.one hlt)
        go_wp2_with (fail)
        go_loopg [5, 6, 8] l.length (fun g2 nv dv jv wr2 => ∃ j : Nat, Hid (j + g2 = l.length) ∧ jv = .int .i64 (j : Int) ∧ nv = .int .i64 (stRow l i (stTo l i) j).1 ∧ dv = .int .i64 (stRow l i (stTo l i) j).2 ∧ Bx wr2 w.heap.size 39 #[.int .i64 0, .int .i64 0] ∧ Below w.heap.size w wr2)
        case atStart => exact ⟨0, by simp [Hid], rfl, by rw [← HS0.out], by rw [← HS0.out], hx, hb⟩
        case round =>
          obtain ⟨j, HJ, rfl, rfl, rfl, hx2, hb2⟩ := hrel
          rcases gk with _ | gj
          · obtain rfl : j = l.length := HJ.out
            have HS1 : Hid (stTo l (i + 1) = stRow l i (stTo l i) l.length) := rfl
            rw [← HS1.out]
            go_wp2_with (fail)
            go_roundg gi
            case rel => exact ⟨i + 1, by have := HK.out; show _ = _; omega, by go_num, rfl, rfl, hx2, hb2⟩
            case measure => omega
          · have hltj : j < l.length := by have := HJ.out; omega
            have hltj' : (j : Int) < (l.length : Int) := by omega
            obtain ⟨⟨p1, p2, p3, p4⟩, H1, H2, H3⟩ := HN.out i j hlt hltj
            replace H1 := Lib.hid H1
            replace H2 := Lib.hid H2
            replace H3 := Lib.hid H3
            by_cases hij : i = j
            · have hne := nat_eq hij
              have HN2 := Lib.hid (H1.out hij)
              clear hij H1 H2 H3 p1 p2 p3 p4
              generalize stRow l i (stTo l i) j = st at *
              go_wp2_with (fail)
              go_roundg gj
              case rel => exact ⟨j + 1, by have := HJ.out; show _ = _; omega, by go_num, by rw [HN2.out], by rw [HN2.out], hx2, hb2⟩
              case measure => omega
            · have hne := nat_eq' hij
              replace H2 := Lib.hid (H2.out hij)
              replace H3 := Lib.hid (H3.out hij)
              clear hij H1
              obtain ⟨b, o, rfl, hbl2, ⟨c0_, c1_, c2_⟩, d0_, d1_, d2_⟩ := (hr.later hb2).tri2 hlt hltj
              have c0 : wr.cell? ⟨b, o + i * 3, none⟩ = some (.int .i64 (tm l i)) := c0_
              have c1 : wr.cell? ⟨b, o + i * 3 + 1, none⟩ = some (.int .i64 (lw l i)) := c1_
              have d0 : wr.cell? ⟨b, o + j * 3, none⟩ = some (.int .i64 (tm l j)) := d0_
              have d2 : wr.cell? ⟨b, o + j * 3 + 2, none⟩ = some (.int .i64 (hg l j)) := d2_
              have HCL : Hid (∀ w1, Below wr.heap.size wr w1 → (w1.cell? ⟨b, o + i * 3, none⟩ = some (.int .i64 (tm l i)) ∧ w1.cell? ⟨b, o + i * 3 + 1, none⟩ = some (.int .i64 (lw l i))) ∧ w1.cell? ⟨b, o + j * 3, none⟩ = some (.int .i64 (tm l j)) ∧ w1.cell? ⟨b, o + j * 3 + 2, none⟩ = some (.int .i64 (hg l j))) := fun w1 hw => by
                have hh : ∀ j, w1.cell? ⟨b, j, none⟩ = wr.cell? ⟨b, j, none⟩ := fun j => hw.cell (p := ⟨b, j, none⟩) hbl2
                exact ⟨⟨by rw [hh]; exact c0, by rw [hh]; exact c1⟩, by rw [hh]; exact d0, by rw [hh]; exact d2⟩
              clear c0_ c1_ c2_ d0_ d1_ d2_ c0 c1 d0 d2
              have HU := Lib.hid (HFT.out.one hltj)
              generalize hst : stRow l i (stTo l i) j = st at *
              obtain ⟨n0, dn0⟩ := st
              have HST := Lib.hid hst
              clear hst
              simp only [] at p1 p2 p3 p4 H2 H3
              obtain ⟨t0_, t1_, l0_, l1_, h0_, h1_⟩ := HT.out
              obtain ⟨u0_, u1_, m0_, m1_, k0_, k1_⟩ := HU.out
              generalize tm l i = T1 at *
              generalize lw l i = L1 at *
              generalize tm l j = T2 at *
              generalize hg l j = Hj at *
              have HD := fun w => Lib.hid (far_c T1 T2 w ⟨by omega, by omega⟩ ⟨by omega, by omega⟩)
              have hfd : 0 ≤ farI T1 T2 ∧ farI T1 T2 ≤ 1000 := by unfold farI; omega
              generalize farI T1 T2 = f at *
              obtain ⟨f0, f1⟩ := hfd
              have s1 : IntKind.i64.wrap (L1 - Hj) = L1 - Hj := by rw [IntWalk.i64_left]; exact IntWalk.wrap64_in _ ⟨by omega, by omega⟩
              have s2 : wrap64 ((L1 - Hj) * dn0) = (L1 - Hj) * dn0 := mul_small (by omega) (by omega) (by omega) (by omega)
              have s3 : wrap64 (n0 * f) = n0 * f := mul_small (by omega) (by omega) (by omega) (by omega)
              have s4 : wrap64 (L1 - Hj) = L1 - Hj := IntWalk.wrap64_in _ ⟨by omega, by omega⟩
              clear t0_ t1_ l0_ l1_ h0_ h1_ u0_ u1_ m0_ m1_ k0_ k1_ p1 p2 p3 p4
              have hbW : Below wr.heap.size wr wr.drew := (Below.refl _ _).drew
              go_wp2_with (fail)
              refine wp_region_low (hbW) (by kernel_rfl) (by kernel_rfl) ?_
              repeat (first
                | go_big_quiet_skip
                | (go_big_quiet_want
                   apply Exists.intro
                   refine And.intro (fun W hW => ?_) ?_
                   · (obtain ⟨⟨z0, z1⟩, z3, z4⟩ := HCL.out W hW)
                     go_simp
                     first
                       | exact rfl
                       | (refine (HD W).out.mono ?_; rintro e w1 ⟨rfl, rfl⟩; exact ⟨rfl, hW⟩)
                   try go_simp
                   go_big_quiet_on))
              refine wpQuiet_nil ?_
              intro w9 hb9
              have hx9 := hx2.call hb9
              have hb9' := bl_call hb2 hb9
              clear hx2 hb9
              by_cases hlt2 : n0 * f < (L1 - Hj) * dn0
              · have HN2 := Lib.hid (H3.out (by omega))
                clear H2 H3
                go_wp2_with (fail)
                go_roundg gj
                case rel => exact ⟨j + 1, by have := HJ.out; show _ = _; omega, by go_num, by rw [HN2.out], by rw [HN2.out], hx9, hb9'⟩
                case measure => omega
              · have HN2 := Lib.hid (H2.out (by omega))
                clear H2 H3
                go_wp2_with (fail)
                go_roundg gj
                case rel => exact ⟨j + 1, by have := HJ.out; show _ = _; omega, by go_num, by rw [HN2.out], by rw [HN2.out], hx9, hb9'⟩
                case measure => omega
  · have hv' : (validE l != 0) = true := by simpa using hv
    rw [steG, if_neg hv]
    generalize validE l = v at *
    go_enter Try.func30, Try.ntmps30
    go_wp2_with (fail)
    refine HV.out.mono ?_
    rintro e w1 ⟨rfl, hb1⟩
    have x1 := x0.call hb1
    have b1 := bl_call b0 hb1
    obtain ⟨v0, v1, v2, v3⟩ := x1.two
    have zF := x1.set2 (.int .i64 0) (.int .i64 0)
    have hbF := bl_set (bl_set b1 (g := w.heap.size) (i := 0) (Nat.le_refl _) (.int .i64 0)) (g := w.heap.size) (i := 1) (Nat.le_refl _) (.int .i64 0)
    go_wp2_with (fail)
    refine bodyPost_ret (results_cell_tmp rfl _ _ w.heap.size 39 _ (0, 0) _ _ rfl rfl zF Try.underlying39 rfl (by kernel_rfl)) rfl ?_
    exact ⟨rfl, hbF⟩
end Go.Proofs.Ytbbhaongakmhpaa
