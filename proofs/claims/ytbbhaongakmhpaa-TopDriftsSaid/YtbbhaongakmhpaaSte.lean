/- Fractions in lowest terms, and the steepest way: package drift's. -/
import Derived.Test.YtbbhaongakmhpaaAgr
namespace Go.Proofs.Ytbbhaongakmhpaa
open Go.RowKit

theorem gcd_step (x y : Nat) : Nat.gcd (y + 1) (x % (y + 1)) = Nat.gcd x (y + 1) := by
  rw [Nat.gcd_comm x, Nat.gcd_rec (y + 1) x, Nat.gcd_comm]
theorem ratio_nat (n d : Nat) : (ratN ((n : Int), (d : Int))).1 = (n : Int) / (Nat.gcd n d : Int) ∧ (ratN ((n : Int), (d : Int))).2 = (d : Int) / (Nat.gcd n d : Int) := ⟨rfl, rfl⟩
set_option maxHeartbeats 2000000 in
theorem ratOf_c (n d : Nat) (w : World) (hn : n ≤ 2000) (hd : 0 < d) (hd2 : d ≤ 2000) :
    Calls Try.prog 68 #[.int .i64 n, .int .i64 d] w fun e w' => e = .returned (.agg #[.int .i64 (ratN ((n : Int), (d : Int))).1, .int .i64 (ratN ((n : Int), (d : Int))).2]) ∧ Below w.heap.size w w' := by
  obtain ⟨e1, e2⟩ := ratio_nat n d
  have H1 := Lib.hid e1
  have H2 := Lib.hid e2
  have HG : Hid (0 < Nat.gcd n d) := Nat.gcd_pos_of_pos_right _ hd
  clear e1 e2
  go_enter Try.func68, Try.ntmps68
  go_wp2_with (fail)
  go_loopg [5, 6] d (fun gk cv rv wr => ∃ x : Nat, rv = .int .i64 (gk : Int) ∧ cv = .int .i64 (x : Int) ∧ Hid (Nat.gcd x gk = Nat.gcd n d) ∧ Hid (x ≤ 2000 ∧ gk ≤ 2000) ∧ Bx wr w.heap.size 39 #[.int .i64 0, .int .i64 0] ∧ Below w.heap.size w wr)
  case atStart => exact ⟨n, rfl, rfl, rfl, ⟨hn, hd2⟩, Bx.new _ _ _, bl_alloc (Below.refl _ _) _⟩
  case round =>
    obtain ⟨x, rfl, rfl, HX, HR, hx0, hb⟩ := hrel
    obtain ⟨y0, y1, y2, y3⟩ := hx0.two
    rcases gk with _ | gi
    · have hx : x = Nat.gcd n d := by have := HX.out; rw [Nat.gcd_zero_right] at this; exact this
      have h0 : (0 : Int) < (x : Int) := by have := HG.out; omega
      rw [← hx] at H1 H2
      have hxb := HR.out.1
      have h1 : (1 : Int) ≤ (x : Int) := by omega
      have h2 : (x : Int) ≤ 2000 := by omega
      have hn0 : (0 : Int) ≤ (n : Int) := by omega
      have hd0 : (0 : Int) ≤ (d : Int) := by omega
      have hn1 : (n : Int) ≤ 2000 := by omega
      have hd1 : (d : Int) ≤ 2000 := by omega
      clear hx h0 HX HR HG hxb
      generalize (x : Int) = X at *
      have hX0 : (X == 0) = false := by rw [beq_eq_false_iff_ne]; omega
      go_wp2_with (fail)
      have hbW : Below wr.heap.size wr wr.drew := (Below.refl _ _).drew
      have hX1 : ¬ X = 0 := by omega
      have Q1 : IntKind.i64.wrap ((n : Int).tdiv X) = (n : Int) / X := IntWalk.i64_quo n X ⟨hn0, by omega, h1⟩
      have Q2 : IntKind.i64.wrap ((d : Int).tdiv X) = (d : Int) / X := IntWalk.i64_quo d X ⟨hd0, by omega, h1⟩
      have W1 : wrap64 ((n : Int) / X) = (n : Int) / X := IntWalk.wrap64_in _ (by have a := Int.ediv_nonneg hn0 (show 0 ≤ X by omega); have b := Int.ediv_le_self X hn0; omega)
      have W2 : wrap64 ((d : Int) / X) = (d : Int) / X := IntWalk.wrap64_in _ (by have a := Int.ediv_nonneg hd0 (show 0 ≤ X by omega); have b := Int.ediv_le_self X hd0; omega)
      refine wp_region_low_tail 7 (hbW) (by kernel_rfl) (by kernel_rfl) ?_
      simp only [List.take_succ_cons, List.take_zero, List.drop_succ_cons, List.drop_zero]
      repeat (first
        | go_big_quiet_skip
        | (go_big_quiet_want
           apply Exists.intro
           refine And.intro (fun W hW => ?_) ?_
           · (skip)
             go_simp
             first
               | exact rfl
               | (fail)
           try go_simp
           go_big_quiet_on))
      refine wpQuiet_nil ?_
      intro w9 hb9
      have hx9 := hx0.call hb9
      obtain ⟨y0, y1, y2, y3⟩ := hx9.two
      go_wp2_with (fail)
      have hbF := fun (u v : Value) => bl_set (bl_set (bl_call hb hb9) (g := w.heap.size) (i := 0) (Nat.le_refl _) u) (g := w.heap.size) (i := 1) (Nat.le_refl _) v
      refine bodyPost_ret (results_cell_row rfl _ _ w.heap.size 39 _ (0, 0) _ rfl (hx9.set2 _ _) Try.underlying39 rfl (by kernel_rfl)) rfl ?_
      exact ⟨by rw [W1, W2, H1.out, H2.out], hbF _ _⟩
    · have hne : (((gi : Int) + 1) != 0) = true := by rw [bne_iff_ne]; omega
      have hxz : (0 : Int) ≤ (x : Int) := by omega
      have HM : Hid (((x % (gi + 1) : Nat) : Int) = (x : Int) % ((gi : Int) + 1)) := by show _ = _; rw [Int.natCast_emod]; rfl
      have hb2 := fun n => below_drewN hb n
      go_wp2_with (fail)
      go_quiet (fail)
      go_wp2_with (fail)
      go_roundg (x % (gi + 1))
      case rel =>
        refine ⟨gi + 1, by rw [HM.out], rfl, ?_, ⟨HR.out.2, ?_⟩, hx0.call (below_drewN (Below.refl _ _) _), below_drewN hb _⟩
        · show _ = _; rw [gcd_step]; exact HX.out
        · have h1 := Nat.mod_lt x (show 0 < gi + 1 by omega); have := HR.out.2; omega
      case measure => have h1 := Nat.mod_lt x (show 0 < gi + 1 by omega); omega

theorem results_cell_tmp {P : Program} {fn : Func} {p q : Tmp} {ty : TypeId} (h : fn.results = #[.cell p ty, .tmp q]) (tmps : Array Value) (w : World) (g : Nat) (t : TypeId) (cs : Array Value) (fr : Nat × Nat) (d : TypeDesc) (x : Value)
    (hp : tmps.getD p undef = .pointer (some ⟨g, 0, none⟩)) (hq : tmps.getD q undef = x) (hg : w.heap[g]? = some (.cells cs t fr))
    (hu : P.underlying ty = some d) (hd : (match d with | .struct _ | .array _ _ => true | _ => false) = true) (hi : (P.info? ty).map (·.size) = some cs.size) :
    (results fn tmps).run P w = .ok (.tuple #[.agg cs, x]) w := by
  have hp' : tmps[p]?.getD undef = .pointer (some ⟨g, 0, none⟩) := by simpa using hp
  have hq' : tmps[q]?.getD undef = x := by simpa using hq
  simp [results, h, hp', hq', asAddr, run_loadVar_row w g t ty cs fr d hg hu hd hi]
def steG (l : List T3) : Int × Int := if validE l = 0 then ratN (stL l) else (0, 0)
/-- What a round does. -/
theorem st_next {l : List T3} (hl : Ok l) {i k : Nat} (hi : i < l.length) (hk : k < l.length) :
    (0 ≤ (ratN (stRow l i (stTo l i) k)).1 ∧ (ratN (stRow l i (stTo l i) k)).1 ≤ 2000 ∧ 1 ≤ (ratN (stRow l i (stTo l i) k)).2 ∧ (ratN (stRow l i (stTo l i) k)).2 ≤ 1000) ∧
    (i = k → stRow l i (stTo l i) (k + 1) = stRow l i (stTo l i) k) ∧
    (i ≠ k → ¬ (ratN (stRow l i (stTo l i) k)).1 * farI (tm l i) (tm l k) < (lw l i - hg l k) * (ratN (stRow l i (stTo l i) k)).2 → stRow l i (stTo l i) (k + 1) = stRow l i (stTo l i) k) ∧
    (i ≠ k → (ratN (stRow l i (stTo l i) k)).1 * farI (tm l i) (tm l k) < (lw l i - hg l k) * (ratN (stRow l i (stTo l i) k)).2 →
      stRow l i (stTo l i) (k + 1) = (((lw l i - hg l k).toNat : Int), ((farI (tm l i) (tm l k)).toNat : Int)) ∧ ((lw l i - hg l k).toNat : Int) = lw l i - hg l k ∧ ((farI (tm l i) (tm l k)).toNat : Int) = farI (tm l i) (tm l k) ∧
      (lw l i - hg l k).toNat ≤ 2000 ∧ 0 < (farI (tm l i) (tm l k)).toNat ∧ (farI (tm l i) (tm l k)).toNat ≤ 2000) := by
  have hs := steep_row hl hi (steep_to hl (i := i) (by omega)) (k := k) (by omega)
  have hs2 := steep_row hl hi (steep_to hl (i := i) (by omega)) (k := k + 1) (by omega)
  obtain ⟨p1, p2, p3, p4⟩ := ratN_pos hs.den hs.num
  have hlt := ratN_lt hs.den (lw l i - hg l k) (farI (tm l i) (tm l k))
  have hstep : stRow l i (stTo l i) (k + 1) = stS l i k (stRow l i (stTo l i) k) := rfl
  have n1 := hs.num1
  have d1 := hs.den1
  refine ⟨⟨p1, by omega, p2, by omega⟩, fun h => ?_, fun h hn => ?_, fun h hy => ?_⟩
  · rw [hstep, stS, if_neg (fun x => x.1 h)]
  · rw [hstep, stS, if_neg (fun x => hn (hlt.2 x.2))]
  · have e : stRow l i (stTo l i) (k + 1) = (lw l i - hg l k, farI (tm l i) (tm l k)) := by rw [hstep, stS, if_pos ⟨h, hlt.1 hy⟩]
    have a := hs2.num
    have b := hs2.den
    have c := hs2.num1
    have d := hs2.den1
    rw [e] at a b c d
    simp only [] at a b c d
    have e1 : ((lw l i - hg l k).toNat : Int) = lw l i - hg l k := Int.toNat_of_nonneg a
    have e2 : ((farI (tm l i) (tm l k)).toNat : Int) = farI (tm l i) (tm l k) := Int.toNat_of_nonneg (by omega)
    exact ⟨by rw [e, e1, e2], e1, e2, by omega, by omega, by omega⟩
theorem mul_small {x y : Int} (h0 : -5000 ≤ x) (h1 : x ≤ 5000) (h2 : 0 ≤ y) (h3 : y ≤ 5000) : wrap64 (x * y) = x * y := by
  have h4 : x * y ≤ 5000 * y := Int.mul_le_mul_of_nonneg_right h1 h2
  have h5 : -5000 * y ≤ x * y := Int.mul_le_mul_of_nonneg_right h0 h2
  exact IntWalk.wrap64_in _ ⟨by omega, by omega⟩
theorem nat_ne {i k : Nat} (h : i = k) : (((i : Nat) : Int) != (k : Int)) = false := by subst h; simp
theorem nat_ne' {i k : Nat} (h : ¬ i = k) : (((i : Nat) : Int) != (k : Int)) = true := by rw [bne_iff_ne]; omega
set_option maxRecDepth 100000 in
set_option maxHeartbeats 4000000 in
theorem Steepest_c (A : Option Addr) (l : List T3) (cap : Nat) (w : World) (hlen : l.length ≤ 1000) (hr : Rd w A (cellsT l)) :
    Calls Try.prog 29 #[.slice A l.length cap] w fun e w' => e = .returned (.tuple #[.agg #[.int .i64 (steG l).1, .int .i64 (steG l).2], .int .i64 (validE l)]) ∧ Below w.heap.size w w' := by
  have x0 : Bx (w.alloc (.cells #[.int .i64 0, .int .i64 0] 39)) w.heap.size 39 #[.int .i64 0, .int .i64 0] := Bx.new _ _ _
  have b0 := bl_alloc (Below.refl w.heap.size w) (.cells #[.int .i64 0, .int .i64 0] 39)
  have HV := Lib.hid (validate_c A l cap _ hlen (hr.later b0))
  by_cases hv : validE l = 0
  · have ho := validE_ok.1 hv
    have HN := Lib.hid (fun i k (hi : i < l.length) (hk : k < l.length) => st_next ho hi hk)
    have HFT := Lib.hid (ho.fit (r := 0) (by omega) (by omega))
    rw [steG, if_pos hv, hv]
    rw [hv] at HV
    clear hv ho
    have HL : Hid (stL l = stTo l l.length) := rfl
    generalize stL l = res at HL ⊢
    go_enter Try.func29, Try.ntmps29
    go_wp2_with (go_at_call 23; refine HV.out.mono ?_; rintro e w1 ⟨rfl, hb1⟩)
    have x1 := x0.call hb1
    have b1 := bl_call b0 hb1
    have hg1 : w.heap.size < w1.heap.size := x1.lt
    have y1 : Bx (w1.alloc (.cells #[.int .i64 0, .int .i64 1] 39)) w1.heap.size 39 #[.int .i64 0, .int .i64 1] := Bx.new _ _ _
    have x2 := x1.alloc (.cells #[.int .i64 0, .int .i64 1] 39)
    have b2 := bl_alloc b1 (.cells #[.int .i64 0, .int .i64 1] 39)
    have HZ : Hid (ratN (stTo l 0) = (0, 1)) := ratN_zero
    clear x0 b0 hb1 x1 b1 HV
    go_loopg [21] l.length (fun gk iv wr => ∃ i : Nat, Hid (i + gk = l.length) ∧ iv = .int .i64 (i : Int) ∧ Bx wr w.heap.size 39 #[.int .i64 0, .int .i64 0] ∧ Bx wr w1.heap.size 39 #[.int .i64 (ratN (stTo l i)).1, .int .i64 (ratN (stTo l i)).2] ∧ Below w.heap.size w wr)
    case atStart => exact ⟨0, by simp [Hid], rfl, x2, by rw [HZ.out]; exact y1, b2⟩
    case round =>
      obtain ⟨i, HK, rfl, hx, hy, hb⟩ := hrel
      clear x2 y1 b2
      rcases gk with _ | gi
      · obtain rfl : i = l.length := HK.out
        rw [← HL.out] at hy
        generalize hq : ratN res = q at hy
        obtain ⟨q1, q2⟩ := q
        have HQ := Lib.hid hq
        clear hq
        simp only [] at hy
        obtain ⟨z0, z1, z2, z3⟩ := hy.two
        obtain ⟨v0, v1, v2, v3⟩ := hx.two
        have zF := hx.set2 (.int .i64 q1) (.int .i64 q2)
        have hbF := bl_set (bl_set hb (g := w.heap.size) (i := 0) (Nat.le_refl _) (.int .i64 q1)) (g := w.heap.size) (i := 1) (Nat.le_refl _) (.int .i64 q2)
        go_wp2_with (fail)
        refine bodyPost_ret (results_cell_tmp rfl _ _ w.heap.size 39 _ (0, 0) _ _ rfl rfl zF Try.underlying39 rfl (by kernel_rfl)) rfl ?_
        exact ⟨by rw [HQ.out]; rfl, hbF⟩
      · have hlt : i < l.length := by have := HK.out; omega
        have hlt' : (i : Int) < (l.length : Int) := by omega
        obtain ⟨b, o, rfl, hbl, c0, c1, c2⟩ := (hr.later hb).tri hlt
        have hT := HFT.out.one hlt
        have HT := Lib.hid hT
        clear hT
        generalize hT1 : tm l i = T1 at *
        generalize hL1 : lw l i = L1 at *
        generalize hH1 : hg l i = Hh at *
        have c0' : wr.cell? ⟨b, o + i * 3, none⟩ = some (.int .i64 T1) := by rw [← hT1]; exact c0
        have c1' : wr.cell? ⟨b, o + i * 3 + 1, none⟩ = some (.int .i64 L1) := by rw [← hL1]; exact c1
        have c2' : wr.cell? ⟨b, o + i * 3 + 2, none⟩ = some (.int .i64 Hh) := by rw [← hH1]; exact c2
        have HT1 := Lib.hid hT1
        have HL1 := Lib.hid hL1
        clear c0 c1 c2 hT1 hL1 hH1
        have bi := bl_alloc hb (.cells #[.int .i64 T1, .int .i64 L1, .int .i64 Hh] 55)
        have xi := hx.alloc (.cells #[.int .i64 T1, .int .i64 L1, .int .i64 Hh] 55)
        have yi := hy.alloc (.cells #[.int .i64 T1, .int .i64 L1, .int .i64 Hh] 55)
        have zi : Bx (wr.alloc (.cells #[.int .i64 T1, .int .i64 L1, .int .i64 Hh] 55)) wr.heap.size 55 #[.int .i64 T1, .int .i64 L1, .int .i64 Hh] := Bx.new _ _ _
        have hg2 : w1.heap.size < wr.heap.size := hy.lt
        have hg3 : b < w.heap.size ∨ True := .inr trivial
        obtain ⟨w7, rfl⟩ : ∃ w7, w7 = wr := ⟨_, rfl⟩
        have hbI := hbl
        clear hg3
        have HS0 : Hid (stTo l i = stRow l i (stTo l i) 0) := rfl
        go_wp2_with (fail)
        clear c0' c1' c2'
        go_loopg [28] l.length (fun g2 jv wr2 => ∃ j : Nat, Hid (j + g2 = l.length) ∧ jv = .int .i64 (j : Int) ∧ Bx wr2 w.heap.size 39 #[.int .i64 0, .int .i64 0] ∧ Bx wr2 w1.heap.size 39 #[.int .i64 (ratN (stRow l i (stTo l i) j)).1, .int .i64 (ratN (stRow l i (stTo l i) j)).2] ∧ Bx wr2 w7.heap.size 55 #[.int .i64 T1, .int .i64 L1, .int .i64 Hh] ∧ Below w.heap.size w wr2)
        case atStart => exact ⟨0, by simp [Hid], rfl, xi, by rw [← HS0.out]; exact yi, zi, bi⟩
        case round =>
          obtain ⟨j, HJ, rfl, hx2, hy2, hz2, hb2⟩ := hrel
          rcases gk with _ | gj
          · obtain rfl : j = l.length := HJ.out
            have HS1 : Hid (stTo l (i + 1) = stRow l i (stTo l i) l.length) := rfl
            rw [← HS1.out] at hy2
            go_wp2_with (fail)
            go_roundg gi
            case rel => exact ⟨i + 1, by have := HK.out; show _ = _; omega, by go_num, hx2, hy2, hb2⟩
            case measure => omega
          · have hltj : j < l.length := by have := HJ.out; omega
            have hltj' : (j : Int) < (l.length : Int) := by omega
            obtain ⟨⟨p1, p2, p3, p4⟩, H1, H2, H3⟩ := HN.out i j hlt hltj
            rw [HT1.out, HL1.out] at H2 H3
            replace H1 := Lib.hid H1
            replace H2 := Lib.hid H2
            replace H3 := Lib.hid H3
            obtain ⟨b', o', he, hbl2, d0_, d1_, d2_⟩ := (hr.later hb2).tri hltj
            injection he with he
            injection he with e1 e2
            subst e1 e2
            have d0 : wr.cell? ⟨b, o + j * 3, none⟩ = some (.int .i64 (tm l j)) := d0_
            have d1 : wr.cell? ⟨b, o + j * 3 + 1, none⟩ = some (.int .i64 (lw l j)) := d1_
            have d2 : wr.cell? ⟨b, o + j * 3 + 2, none⟩ = some (.int .i64 (hg l j)) := d2_
            clear d0_ d1_ d2_
            have HU := Lib.hid (HFT.out.one hltj)
            generalize tm l j = T2 at *
            generalize lw l j = L2 at *
            generalize hg l j = Hj at *
            generalize hst : ratN (stRow l i (stTo l i) j) = st at *
            obtain ⟨n0, dn0⟩ := st
            have HST := Lib.hid hst
            clear hst
            simp only [] at p1 p2 p3 p4 H2 H3 hy2
            obtain ⟨t0_, t1_, l0_, l1_, h0_, h1_⟩ := HT.out
            obtain ⟨u0_, u1_, m0_, m1_, k0_, k1_⟩ := HU.out
            have HD := fun w => Lib.hid (distance_c T1 T2 w ⟨by omega, by omega⟩ ⟨by omega, by omega⟩)
            have hfd : 0 ≤ farI T1 T2 ∧ farI T1 T2 ≤ 1000 := by unfold farI; omega
            generalize farI T1 T2 = f at *
            obtain ⟨f0, f1⟩ := hfd
            have s1 : IntKind.i64.wrap (L1 - Hj) = L1 - Hj := by rw [IntWalk.i64_left]; exact IntWalk.wrap64_in _ ⟨by omega, by omega⟩
            have s2 : wrap64 ((L1 - Hj) * dn0) = (L1 - Hj) * dn0 := mul_small (by omega) (by omega) (by omega) (by omega)
            have s3 : wrap64 (n0 * f) = n0 * f := mul_small (by omega) (by omega) (by omega) (by omega)
            have s4 : wrap64 (L1 - Hj) = L1 - Hj := IntWalk.wrap64_in _ ⟨by omega, by omega⟩
            clear t0_ t1_ l0_ l1_ h0_ h1_ u0_ u1_ m0_ m1_ k0_ k1_ p1 p2 p3 p4
            obtain ⟨W0, hW0⟩ : ∃ W0, W0 = wr.alloc (.cells #[.int .i64 T2, .int .i64 L2, .int .i64 Hj] 55) := ⟨_, rfl⟩
            have hbA : Below w.heap.size w W0 := by rw [hW0]; exact bl_alloc hb2 _
            have hxA : Bx W0 w.heap.size 39 #[.int .i64 0, .int .i64 0] := by rw [hW0]; exact hx2.alloc _
            have hyA : Bx W0 w1.heap.size 39 #[.int .i64 n0, .int .i64 dn0] := by rw [hW0]; exact hy2.alloc _
            have hzA : Bx W0 w7.heap.size 55 #[.int .i64 T1, .int .i64 L1, .int .i64 Hh] := by rw [hW0]; exact hz2.alloc _
            have hvA : Bx W0 wr.heap.size 55 #[.int .i64 T2, .int .i64 L2, .int .i64 Hj] := by rw [hW0]; exact Bx.new _ _ _
            have HCL : Hid (∀ w1, Below W0.heap.size W0 w1 → (w1.cell? ⟨w7.heap.size, 0, none⟩ = some (.int .i64 T1) ∧ w1.cell? ⟨w7.heap.size, 1, none⟩ = some (.int .i64 L1) ∧ w1.cell? ⟨w7.heap.size, 2, none⟩ = some (.int .i64 Hh)) ∧ w1.cell? ⟨wr.heap.size, 0, none⟩ = some (.int .i64 T2) ∧ w1.cell? ⟨wr.heap.size, 1, none⟩ = some (.int .i64 L2) ∧ w1.cell? ⟨wr.heap.size, 2, none⟩ = some (.int .i64 Hj)) := fun w1 hw => by
              obtain ⟨z0, z1, z2, _, _, _⟩ := (hzA.call hw).three
              obtain ⟨y0, y1, y2, _, _, _⟩ := (hvA.call hw).three
              exact ⟨⟨z0, z1, z2⟩, y0, y1, y2⟩
            have hbW : Below W0.heap.size W0 W0.drew := (Below.refl _ _).drew
            go_wp2_with (fail)
            rw [← hW0]
            clear hW0 hx2 hy2 hz2 hvA d0 d1 d2 hb2
            refine wp_region_low (hbW) (by kernel_rfl) (by kernel_rfl) ?_
            repeat (first
              | go_big_quiet_skip
              | (go_big_quiet_want
                 apply Exists.intro
                 refine And.intro (fun W hW => ?_) ?_
                 · (obtain ⟨⟨z0, z1, z2⟩, z3, z4, z5⟩ := HCL.out W hW)
                   go_simp
                   first
                     | exact rfl
                     | (refine (HD W).out.mono ?_; rintro e w1 ⟨rfl, rfl⟩; exact ⟨rfl, hW⟩)
                 try go_simp
                 go_big_quiet_on))
            refine wpQuiet_nil ?_
            intro w9 hb9
            have hxB := hxA.call hb9
            have hyB := hyA.call hb9
            have hzB := hzA.call hb9
            have hbB := bl_call hbA hb9
            clear hxA hyA hzA hbA hbW HCL hb9
            obtain ⟨q0, q1, q2, q3⟩ := hyB.two
            by_cases hij : i = j
            · have hne := nat_ne hij
              have HN2 := Lib.hid (H1.out hij)
              clear hij H1 H2 H3
              go_wp2_with (fail)
              go_roundg gj
              case rel => exact ⟨j + 1, by have := HJ.out; show _ = _; omega, by go_num, hxB, by rw [HN2.out, HST.out]; exact hyB, hzB, hbB⟩
              case measure => omega
            · have hne := nat_ne' hij
              by_cases hlt2 : n0 * f < (L1 - Hj) * dn0
              · obtain ⟨e1, e2, e3, e4, e5, e6⟩ := H3.out hij (by omega)
                have HN2 := Lib.hid e1
                have HE2 := Lib.hid e2
                have HE3 := Lib.hid e3
                have HRT := fun w => Lib.hid (ratOf_c (L1 - Hj).toNat f.toNat w e4 e5 e6)
                rw [e2, e3] at HRT HN2
                clear e1 e2 e3 e4 e5 e6 hij H1 H2 H3 HE2 HE3
                generalize hrt : ratN (L1 - Hj, f) = rt at *
                obtain ⟨r1, r2⟩ := rt
                have HRT2 := Lib.hid hrt
                clear hrt
                simp only [] at HRT
                go_wp2_with (fail)
                refine (HRT _).out.mono ?_
                rintro e wx ⟨rfl, hbx⟩
                have hxC := hxB.call hbx
                have hyC := hyB.call hbx
                have hzC := hzB.call hbx
                have hbC := bl_call hbB hbx
                have hg4 : w7.heap.size < w9.heap.size := hzB.lt
                clear hxB hyB hzB hbB hbx q0 q1 q2 q3
                obtain ⟨q0, q1, q2, q3⟩ := hyC.two
                have hyD := hyC.set2 (.int .i64 r1) (.int .i64 r2)
                have hxD := (hxC.far (g' := w1.heap.size) (i := 0) (by omega) (.int .i64 r1)).far (g' := w1.heap.size) (i := 1) (by omega) (.int .i64 r2)
                have hzD := (hzC.far (g' := w1.heap.size) (i := 0) (by omega) (.int .i64 r1)).far (g' := w1.heap.size) (i := 1) (by omega) (.int .i64 r2)
                have hbD := bl_set (bl_set hbC (g := w1.heap.size) (i := 0) (by omega) (.int .i64 r1)) (g := w1.heap.size) (i := 1) (by omega) (.int .i64 r2)
                clear hxC hyC hzC hbC
                go_wp2_with (fail)
                go_roundg gj
                case rel => exact ⟨j + 1, by have := HJ.out; show _ = _; omega, by go_num, hxD, by rw [HN2.out, HRT2.out]; exact hyD, hzD, hbD⟩
                case measure => omega
              · have HN2 := Lib.hid (H2.out hij (by omega))
                clear hij H1 H2 H3
                go_wp2_with (fail)
                go_roundg gj
                case rel => exact ⟨j + 1, by have := HJ.out; show _ = _; omega, by go_num, hxB, by rw [HN2.out, HST.out]; exact hyB, hzB, hbB⟩
                case measure => omega
  · have hv' : (validE l != 0) = true := by simpa using hv
    rw [steG, if_neg hv]
    generalize validE l = v at *
    go_enter Try.func29, Try.ntmps29
    go_wp2_with (fail)
    refine HV.out.mono ?_
    rintro e w1 ⟨rfl, hb1⟩
    have x1 := x0.call hb1
    have b1 := bl_call b0 hb1
    obtain ⟨v0, v1, v2, v3⟩ := x1.two
    have zF := x1.set2 (.int .i64 0) (.int .i64 0)
    have hbF := bl_set (bl_set b1 (g := w.heap.size) (i := 0) (Nat.le_refl _) (.int .i64 0)) (g := w.heap.size) (i := 1) (Nat.le_refl _) (.int .i64 0)
    go_wp2_with (fail)
    refine bodyPost_ret (results_cell_tmp rfl _ _ w.heap.size 39 _ (0, 0) _ _ rfl rfl zF Try.underlying39 rfl (by kernel_rfl)) rfl ?_
    exact ⟨rfl, hbF⟩
end Go.Proofs.Ytbbhaongakmhpaa
