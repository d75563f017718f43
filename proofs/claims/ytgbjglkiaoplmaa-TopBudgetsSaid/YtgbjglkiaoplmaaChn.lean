/- Chance: package budget's. -/
import Derived.Test.YtgbjglkiaoplmaaTtl
namespace Go.Proofs.Ytgbjglkiaoplmaa
open Go.RowKit

/-- A pair in lowest terms. -/
def fN (s : Int × Int) : Int × Int := low s.1 s.2
/-- What Chance answers. -/
def chnE (l : List It) : Int := if valE l = 0 then (if 8 < usesL l then 3 else 0) else valE l
def chnG (l : List It) : Int × Int := if chnE l = 0 then chanceL l else (0, 0)
theorem fN_in {s : Int × Int} {c : Nat} {P : Int} (h : Safe s c P) (hc : c ≤ 8) : (0 ≤ (fN s).1 ∧ (fN s).1 ≤ 100000000) ∧ 0 < (fN s).2 ∧ (fN s).2 ≤ 100000000 := by
  obtain ⟨h1, h2, h3, h4⟩ := h.small hc
  have d := low_den (n := s.1) h3
  have n := low_num h1 h3
  exact ⟨⟨n.1, by unfold fN; omega⟩, d.1, by unfold fN; omega⟩
theorem fN_step {x : It} {s : Int × Int} {c : Nat} {P : Int} {j : Nat} (h : Safe (useTo x s j) c P) (hr : rateB x.n x.d = true) :
    low ((fN (useTo x s j)).1 * (low (x.d - x.n) x.d).1) ((fN (useTo x s j)).2 * (low (x.d - x.n) x.d).2) = fN (useTo x s (j + 1)) := by
  obtain ⟨h1, h2, h3, h4⟩ := rateB_iff.1 hr
  exact low_times h.d0 (by omega)
theorem rest_in {x : It} (hr : rateB x.n x.d = true) : (0 ≤ (low (x.d - x.n) x.d).1 ∧ (low (x.d - x.n) x.d).1 ≤ 10) ∧ 0 < (low (x.d - x.n) x.d).2 ∧ (low (x.d - x.n) x.d).2 ≤ 10 := by
  obtain ⟨h1, h2, h3, h4⟩ := rateB_iff.1 hr
  have d := low_den (n := x.d - x.n) (d := x.d) (by omega)
  have n := low_num (n := x.d - x.n) (d := x.d) (by omega) (by omega)
  exact ⟨⟨n.1, by omega⟩, d.1, by omega⟩
set_option maxRecDepth 100000 in
set_option maxHeartbeats 4000000 in
theorem Chance_c (A : Option Addr) (l : List It) (cap : Nat) (w : World) (hlen : l.length ≤ 1000) (hr : Rd w A (cellsI l)) :
    Calls Try.prog 29 #[.slice A l.length cap] w fun e w' => e = .returned (.tuple #[.agg #[.int .i64 (chnG l).1, .int .i64 (chnG l).2], .int .i64 (chnE l)]) ∧ Below w.heap.size w w' := by
  have hb0 : Below w.heap.size w (w.alloc (.cells #[.int .i64 0, .int .i64 0] 30)) := bl_alloc (Below.refl _ _) _
  have HV := Lib.hid (Validate_c A l cap _ hlen (hr.later hb0))
  have x1 : Bx (w.alloc (.cells #[.int .i64 0, .int .i64 0] 30)) w.heap.size 30 #[.int .i64 0, .int .i64 0] := Bx.newAt rfl
  by_cases hv : valE l = 0
  rotate_left
  · have hE : chnE l = valE l := by unfold chnE; rw [if_neg hv]
    have hG : chnG l = (0, 0) := by unfold chnG; rw [hE, if_neg hv]
    have hv' : (valE l == 0) = false := by rw [beq_eq_false_iff_ne]; exact hv
    rw [hG, hE]
    generalize valE l = z at *
    clear hE hG
    go_enter Try.func29, Try.ntmps29
    go_wp2_with (fail)
    refine HV.out.mono ?_
    rintro e w1 ⟨rfl, hb1⟩
    have hx1 := x1.call hb1
    have hb01 := bl_call hb0 hb1
    obtain ⟨z0, z1, z2, z3⟩ := hx1.two
    go_wp2_with (fail)
    refine bodyPost_ret (results_cell_tmp rfl _ _ w.heap.size 30 _ (0, 0) _ _ rfl rfl (hx1.set2 _ _) Try.underlying30 rfl (by kernel_rfl)) rfl ?_
    exact ⟨rfl, bl_set (bl_set hb01 (Nat.le_refl _) _) (Nat.le_refl _) _⟩
  have hok := val_ok hv
  have hl := (valE_ok hv).1
  have HU := fun w (hr : Rd w A (cellsI l)) => Lib.hid (usesOf_c A l cap w hok hl hr)
  by_cases hu : 8 < usesL l
  · have hE : chnE l = 3 := by unfold chnE; rw [if_pos hv, if_pos hu]
    have hG : chnG l = (0, 0) := by unfold chnG; rw [hE]; rfl
    rw [hG, hE]
    rw [hv] at HV
    generalize usesL l = u at *
    clear hE hG hv hok
    go_enter Try.func29, Try.ntmps29
    go_wp2_with (fail)
    refine HV.out.mono ?_
    rintro e w1 ⟨rfl, hb1⟩
    have hx1 := x1.call hb1
    have hb01 := bl_call hb0 hb1
    clear x1 hb0 hb1 HV
    go_wp2_with (fail)
    refine (HU _ (hr.later hb01)).out.mono ?_
    rintro e w2 ⟨rfl, hb2⟩
    have hx2 := hx1.call hb2
    have hb02 := bl_call hb01 hb2
    obtain ⟨z0, z1, z2, z3⟩ := hx2.two
    clear hx1 hb01 hb2 HU
    go_wp2_with (fail)
    refine bodyPost_ret (results_cell_tmp rfl _ _ w.heap.size 30 _ (0, 0) _ _ rfl rfl (hx2.set2 _ _) Try.underlying30 rfl (by kernel_rfl)) rfl ?_
    exact ⟨rfl, bl_set (bl_set hb02 (Nat.le_refl _) _) (Nat.le_refl _) _⟩
  have hE : chnE l = 0 := by unfold chnE; rw [if_pos hv, if_neg hu]
  have hG : chnG l = chanceL l := by unfold chnG; rw [if_pos hE]
  have hu8 : usesL l ≤ 8 := by omega
  rw [hG, hE]
  rw [hv] at HV
  have HA : Hid (fN (noneTo l l.length) = fN (noneL l)) := rfl
  have H0 : Hid (fN (noneTo l 0) = (1, 1)) := by show low 1 1 = (1, 1); decide +kernel
  have HS : Hid (∀ k, useTo (l.getD k it0) (noneTo l k) (l.getD k it0).u.toNat = noneTo l (k + 1)) := fun k => rfl
  have HS0 : Hid (∀ k, useTo (l.getD k it0) (noneTo l k) 0 = noneTo l k) := fun k => rfl
  obtain ⟨cs1, cs2⟩ := chance_safe hok hu8
  obtain ⟨f1, f2⟩ := fN_in cs1 cs2
  have HF := fun w => Lib.hid (rest_c (fN (noneL l)).1 (fN (noneL l)).2 w ⟨f1.1, by
    have := (chance_in hok hu8)
    have h3 := cs1.d0
    have e := low_cross (n := (noneL l).1) h3
    have d := (low_den (n := (noneL l).1) h3).1
    have nd := cs1.nd
    unfold fN
    generalize (low (noneL l).1 (noneL l).2).1 = a at *
    generalize (low (noneL l).1 (noneL l).2).2 = b at *
    generalize (noneL l).1 = N at *
    generalize (noneL l).2 = D at *
    rcases Int.lt_or_le b a with h' | h'
    · have a1 := Int.mul_le_mul_of_nonneg_right (show b + 1 ≤ a by omega) (show 0 ≤ D by omega)
      have a2 := Int.mul_le_mul_of_nonneg_right nd (show 0 ≤ b by omega)
      rw [Int.add_mul] at a1
      have a3 : b * D = D * b := Int.mul_comm _ _
      omega
    · exact h'⟩ ⟨f2.1, by omega⟩)
  rw [show low ((fN (noneL l)).2 - (fN (noneL l)).1) (fN (noneL l)).2 = chanceL l from low_rest cs1.d0] at HF
  have HR := Lib.hid fun k (hk : k < l.length) w => Lib.hid (rest_c (l.getD k it0).n (l.getD k it0).d w (by have := (hok k hk).den; omega) (by have := (hok k hk).den; omega))
  have HT := Lib.hid fun k (hk : k < l.length) j (hj : j < (l.getD k it0).u.toNat) w => (by
    obtain ⟨s1, s2⟩ := none_small hok hu8 hk (Nat.le_of_lt hj)
    have f := fN_in s1 s2
    have q := rest_in (hok k hk).r
    have p1 := mul_in f.1 q.1
    have p2 := mul_in (a := (fN (useTo (l.getD k it0) (noneTo l k) j)).2) (b := (low ((l.getD k it0).d - (l.getD k it0).n) (l.getD k it0).d).2) ⟨Int.le_of_lt f.2.1, f.2.2⟩ ⟨Int.le_of_lt q.2.1, q.2.2⟩
    have p3 := Int.mul_pos f.2.1 q.2.1
    have := Lib.hid (times_c (fN (useTo (l.getD k it0) (noneTo l k) j)).1 (fN (useTo (l.getD k it0) (noneTo l k) j)).2 (low ((l.getD k it0).d - (l.getD k it0).n) (l.getD k it0).d).1 (low ((l.getD k it0).d - (l.getD k it0).n) (l.getD k it0).d).2 w (by omega) (by omega))
    rw [fN_step s1 (hok k hk).r] at this
    exact this : Hid (Calls Try.prog 68 #[.agg #[.int .i64 (fN (useTo (l.getD k it0) (noneTo l k) j)).1, .int .i64 (fN (useTo (l.getD k it0) (noneTo l k) j)).2], .agg #[.int .i64 (low ((l.getD k it0).d - (l.getD k it0).n) (l.getD k it0).d).1, .int .i64 (low ((l.getD k it0).d - (l.getD k it0).n) (l.getD k it0).d).2]] w fun e w' => e = .returned (.agg #[.int .i64 (fN (useTo (l.getD k it0) (noneTo l k) (j + 1))).1, .int .i64 (fN (useTo (l.getD k it0) (noneTo l k) (j + 1))).2]) ∧ Below w.heap.size w w'))
  have HUN := Lib.hid fun k (hk : k < l.length) => (⟨(l.getD k it0).u.toNat, by have := (hok k hk).u0; omega, (hok k hk).um⟩ : ∃ U : Nat, (l.getD k it0).u = (U : Int) ∧ (l.getD k it0).u ≤ 8)
  have hu' : ¬ 8 < usesL l := hu
  clear cs1 cs2 f1 f2 hok hv hE hG hu8 hu
  generalize usesL l = us at *
  generalize chanceL l = ch at *
  generalize fN (noneL l) = fl at *
  go_enter Try.func29, Try.ntmps29
  go_wp2_with (fail)
  refine HV.out.mono ?_
  rintro e w1 ⟨rfl, hb1⟩
  have hx1 := x1.call hb1
  have hb01 := bl_call hb0 hb1
  clear x1 hb0 hb1 HV
  go_wp2_with (fail)
  refine (HU _ (hr.later hb01)).out.mono ?_
  rintro e w2 ⟨rfl, hb2⟩
  have hx2 := hx1.call hb2
  have hb02 := bl_call hb01 hb2
  have hg := hx2.lt
  clear hx1 hb01 hb2 HU
  have hx0 := hx2.alloc (.cells #[.int .i64 1, .int .i64 1] 78)
  have hxg : Bx (w2.alloc (.cells #[.int .i64 1, .int .i64 1] 78)) w2.heap.size 78 #[.int .i64 1, .int .i64 1] := Bx.new _ _ _
  have hb := bl_alloc hb02 (.cells #[.int .i64 1, .int .i64 1] 78)
  clear hx2 hb02
  go_wp2_with (fail)
  generalize w2.alloc (.cells #[.int .i64 1, .int .i64 1] 78) = w3 at *
  generalize w2.heap.size = g at *
  have hwg : w.heap.size ≤ g := by omega
  go_loopg [21] l.length (fun gk iv wr => ∃ k : Nat, Hid (k + gk = l.length) ∧ iv = .int .i64 (k : Int) ∧ Bx wr w.heap.size 30 #[.int .i64 0, .int .i64 0] ∧ Bx wr g 78 #[.int .i64 (fN (noneTo l k)).1, .int .i64 (fN (noneTo l k)).2] ∧ Below w.heap.size w wr)
  case atStart => exact ⟨0, by simp [Hid], rfl, hx0, by rw [H0.out]; exact hxg, hb⟩
  case round =>
    clear hx0 hxg hb
    obtain ⟨k, HK, rfl, x0, xg, hb⟩ := hrel
    rcases gk with _ | gi
    · obtain rfl : k = l.length := HK.out
      rw [HA.out] at xg
      obtain ⟨y0, y1, _, _⟩ := xg.two
      clear HR HT HS HS0 HUN H0 HA
      go_wp2_with (fail)
      refine (HF _).out.mono ?_
      rintro e w4 ⟨rfl, hb4⟩
      have x4 := x0.call hb4
      have hbb := bl_call hb hb4
      obtain ⟨z0, z1, z2, z3⟩ := x4.two
      go_wp2_with (fail)
      refine bodyPost_ret (results_cell_tmp rfl _ _ w.heap.size 30 _ (0, 0) _ _ rfl rfl (x4.set2 _ _) Try.underlying30 rfl (by kernel_rfl)) rfl ?_
      exact ⟨rfl, bl_set (bl_set hbb (Nat.le_refl _) _) (Nat.le_refl _) _⟩
    · have hkN : k < l.length := by have := HK.out; omega
      have hkN' : (k : Int) < (l.length : Int) := by omega
      obtain ⟨b, o, rfl, _, c0, c1, c2⟩ := (hr.later hb).itm hkN
      have HRk := Lib.hid (HR.out k hkN)
      have HTk := Lib.hid (HT.out k hkN)
      have HSk := Lib.hid (HS.out k)
      have HSk0 := Lib.hid (HS0.out k)
      obtain ⟨U, hU, hU8⟩ := HUN.out k hkN
      rw [hU, Int.toNat_natCast] at HSk
      simp only [hU, Int.toNat_natCast] at HTk
      rw [hU] at c0 hU8
      clear hU
      generalize l.getD k it0 = x at *
      generalize noneTo l k = s0 at *
      generalize hsn : noneTo l (k + 1) = sn at *
      have HSN : Hid (noneTo l (k + 1) = sn) := hsn
      clear hsn
      generalize low (x.d - x.n) x.d = q at *
      have hbA := bl_alloc hb (.cells #[.int .i64 (U : Int), .int .i64 x.n, .int .i64 x.d] 50)
      have xi : Bx (wr.alloc (.cells #[.int .i64 (U : Int), .int .i64 x.n, .int .i64 x.d] 50)) wr.heap.size 50 #[.int .i64 (U : Int), .int .i64 x.n, .int .i64 x.d] := Bx.new wr _ _
      have x0A := x0.alloc (.cells #[.int .i64 (U : Int), .int .i64 x.n, .int .i64 x.d] 50)
      have xgA := xg.alloc (.cells #[.int .i64 (U : Int), .int .i64 x.n, .int .i64 x.d] 50)
      have hgi := xg.lt
      clear x0 xg hb
      go_wp2_with (fail)
      generalize wr.alloc (.cells #[.int .i64 (U : Int), .int .i64 x.n, .int .i64 x.d] 50) = wa at *
      generalize wr.heap.size = gx at *
      clear c0 c1 c2
      go_loopg [27] U (fun gk jv wr => ∃ j : Nat, Hid (j + gk = U) ∧ jv = .int .i64 (j : Int) ∧ Bx wr w.heap.size 30 #[.int .i64 0, .int .i64 0] ∧ Bx wr g 78 #[.int .i64 (fN (useTo x s0 j)).1, .int .i64 (fN (useTo x s0 j)).2] ∧ Bx wr gx 50 #[.int .i64 (U : Int), .int .i64 x.n, .int .i64 x.d] ∧ Below w.heap.size w wr)
      case atStart => exact ⟨0, by simp [Hid], rfl, x0A, by rw [HSk0.out]; exact xgA, xi, hbA⟩
      case round =>
        clear x0A xgA xi hbA
        obtain ⟨j, HJ, rfl, x0, xg, xi, hb⟩ := hrel
        rcases gk with _ | gq
        · obtain rfl : j = U := HJ.out
          rw [HSk.out] at xg
          go_wp2_with (fail)
          go_roundg gi
          case rel => exact ⟨k + 1, by have := HK.out; show _ = _; omega, by go_num, x0, by rw [HSN.out]; exact xg, hb⟩
          case measure => omega
        · have hjN : j < U := by have := HJ.out; omega
          have hjN' : (j : Int) < (U : Int) := by omega
          have HTj := Lib.hid (HTk.out j hjN)
          generalize fN (useTo x s0 j) = p at *
          generalize hs : fN (useTo x s0 (j + 1)) = s at *
          have HSS : Hid (fN (useTo x s0 (j + 1)) = s) := hs
          clear hs
          have hd : Below wr.heap.size wr wr.drew := (Below.refl _ _).drew
          obtain ⟨i0, i1, i2, _, _, _⟩ := xi.drew.three
          obtain ⟨t0, t1, _, _⟩ := xg.drew.two
          have HTW := Lib.hid (fun W (hW : Below wr.heap.size wr W) => And.intro (xg.call hW).two (xi.call hW).three)
          go_wp2_with (fail)
          go_region_law (first
            | (go_simp; refine (HRk.out _).out.mono ?_; rintro e w4 ⟨rfl, hb4⟩; have hb04 := bl_call hd hb4; obtain ⟨⟨s0, s1, s2, s3⟩, r0, r1, r2, r3, r4, r5⟩ := HTW.out w4 hb04; have HP4 := HTj.out w4; try go_simp)
            | (go_simp; refine HP4.out.mono ?_; rintro e w5 ⟨rfl, hb5⟩; have hb05 := bl_call hb04 hb5; obtain ⟨⟨s0', s1', s2', s3'⟩, r0', r1', r2', r3', r4', r5'⟩ := HTW.out w5 hb05; try go_simp))
          all_goals
            go_wp2_with (fail)
            go_roundg gq
            case rel =>
              refine ⟨j + 1, by have := HJ.out; show _ = _; omega, by go_num, ((x0.call hb05).far (by omega) _).far (by omega) _, ?_, ((xi.call hb05).far (by omega) _).far (by omega) _, bl_set (bl_set (bl_call hb hb05) hwg _) hwg _⟩
              rw [HSS.out]
              exact (xg.call hb05).set2 _ _
            case measure => omega
end Go.Proofs.Ytgbjglkiaoplmaa
