/- Total, Chance, and whether a budget closes: the specification's. -/
import Derived.Test.YtgbjglkiaoplmaaRrt
namespace Go.Proofs.Ytgbjglkiaoplmaa
open Go.RowKit

set_option maxRecDepth 100000 in
set_option maxHeartbeats 2000000 in
theorem rcloses_c (A : Option Addr) (l : List It) (cap : Nat) (m n d : Int) (w : World) (h : OkIs m l) (hl : l.length ≤ 6) (hm : 0 ≤ m ∧ m ≤ 2000) (hL : limB n d = true) (hr : Rd w A (cellsI l)) :
    Calls Try.prog 73 #[.slice A l.length cap, .agg #[.int .i64 n, .int .i64 d]] w fun e w' => e = .returned (.bool (closeB l n d)) ∧ Below w.heap.size w w' := by
  obtain ⟨d0, d1, n0, n1⟩ := limB_iff.1 hL
  have hf := parts_cnt h hl hm (Nat.le_refl _)
  have p1 := mul_in (a := partsL l) (b := d) (A := 50000000) (B := 1000000) hf ⟨by omega, d1⟩
  have HT := fun w (hr : Rd w A (cellsI l)) => Lib.hid (rparts_c A l cap m w h hl hm hr)
  have hc : closeB l n d = decide (partsL l * d ≤ n * 2520) := rfl
  rw [hc]
  generalize partsL l = p at *
  have e1 : wrap64 (p * d) = p * d := IntWalk.wrap64_in _ ⟨by omega, by omega⟩
  have e2 : wrap64 (n * 2520) = n * 2520 := IntWalk.wrap64_in _ ⟨by omega, by omega⟩
  clear hc p1 hf h hL d0 d1 n0 n1
  have hb0 := bl_alloc (Below.refl w.heap.size w) (.cells #[.int .i64 n, .int .i64 d] 30)
  have x0 : Bx (w.alloc (.cells #[.int .i64 n, .int .i64 d] 30)) w.heap.size 30 #[.int .i64 n, .int .i64 d] := Bx.new w _ _
  have hr0 := (hr.later hb0)
  have hd : Below (w.alloc (.cells #[.int .i64 n, .int .i64 d] 30)).heap.size (w.alloc (.cells #[.int .i64 n, .int .i64 d] 30)) (w.alloc (.cells #[.int .i64 n, .int .i64 d] 30)).drew := (Below.refl _ _).drew
  have HTW := Lib.hid (fun W (hW : Below (w.alloc (.cells #[.int .i64 n, .int .i64 d] 30)).heap.size (w.alloc (.cells #[.int .i64 n, .int .i64 d] 30)) W) => And.intro (x0.call hW).two (HT _ (hr0.later hW)))
  clear HT
  go_enter Try.func73, Try.ntmps73
  go_wp2_with (fail)
  generalize w.alloc (.cells #[.int .i64 n, .int .i64 d] 30) = wo at *
  refine wp_region_low (hd) (by kernel_rfl) (by kernel_rfl) ?_
  repeat (first
    | go_big_quiet_skip
    | (go_big_quiet_want
       apply Exists.intro
       refine And.intro (fun W hW => ?_) ?_
       · (obtain ⟨⟨cc0, cc1, _, _⟩, hcall⟩ := HTW.out W hW)
         go_simp
         first
           | exact rfl
           | (refine hcall.out.mono ?_; rintro e w4 ⟨rfl, hb4⟩; exact ⟨rfl, bl_call hW hb4⟩)
       try go_simp
       go_big_quiet_on))
  refine wpQuiet_nil ?_
  intro w9 hb9
  go_wp2_with (fail)
  go_ret
  exact ⟨by simp [IntWalk.i64_left, e1, e2], bl_call hb0 hb9⟩
set_option maxHeartbeats 2000000 in
theorem rTotal_c (A : Option Addr) (l : List It) (cap : Nat) (w : World) (hlen : l.length ≤ 1000) (hr : Rd w A (cellsI l)) :
    Calls Try.prog 23 #[.slice A l.length cap] w fun e w' => e = .returned (.tuple #[.agg #[.int .i64 (totG l).1, .int .i64 (totG l).2], .int .i64 (valE l)]) ∧ Below w.heap.size w w' := by
  have hb0 : Below w.heap.size w (w.alloc (.cells #[.int .i64 0, .int .i64 0] 30)) := bl_alloc (Below.refl _ _) _
  have HV := Lib.hid (rValidate_c A l cap _ hlen (hr.later hb0))
  have x1 : Bx (w.alloc (.cells #[.int .i64 0, .int .i64 0] 30)) w.heap.size 30 #[.int .i64 0, .int .i64 0] := Bx.newAt rfl
  by_cases hv : valE l = 0
  · have hG : totG l = rat (partsL l) := by unfold totG; rw [if_pos hv]
    have HT := fun w (hr : Rd w A (cellsI l)) => Lib.hid (rparts_c A l cap 8 w (val_ok hv) (valE_ok hv).1 (by decide) hr)
    have hpb := parts_bound hv
    have HQ := fun w => Lib.hid (rRatio_c (partsL l) 2520 w ⟨hpb.1, by omega⟩ (by decide))
    rw [show low (partsL l) 2520 = rat (partsL l) from rfl] at HQ
    clear hpb
    rw [hv] at HV ⊢
    rw [hG]
    clear hv hG
    generalize rat (partsL l) = p at *
    generalize partsL l = pp at *
    go_enter Try.func23, Try.ntmps23
    go_wp2_with (fail)
    refine HV.out.mono ?_
    rintro e w1 ⟨rfl, hb1⟩
    have hx1 := x1.call hb1
    have hb01 := bl_call hb0 hb1
    clear HV x1 hb0 hb1
    go_wp2_with (fail)
    refine (HT _ (hr.later hb01)).out.mono ?_
    rintro e w2 ⟨rfl, hb2⟩
    have hx2 := hx1.call hb2
    have hb02 := bl_call hb01 hb2
    clear HT hx1 hb01 hb2
    go_wp2_with (fail)
    refine (HQ _).out.mono ?_
    rintro e w3 ⟨rfl, hb3⟩
    have hx3 := hx2.call hb3
    have hb03 := bl_call hb02 hb3
    obtain ⟨z0, z1, z2, z3⟩ := hx3.two
    clear HQ hx2 hb02 hb3
    go_wp2_with (fail)
    refine bodyPost_ret (results_cell_tmp rfl _ _ w.heap.size 30 _ (0, 0) _ _ rfl rfl (hx3.set2 _ _) Try.underlying30 rfl (by kernel_rfl)) rfl ?_
    exact ⟨rfl, bl_set (bl_set hb03 (Nat.le_refl _) _) (Nat.le_refl _) _⟩
  · have hG : totG l = (0, 0) := by unfold totG; rw [if_neg hv]
    have hv' : (valE l == 0) = false := by rw [beq_eq_false_iff_ne]; exact hv
    rw [hG]
    generalize valE l = z at *
    go_enter Try.func23, Try.ntmps23
    go_wp2_with (fail)
    refine HV.out.mono ?_
    rintro e w1 ⟨rfl, hb1⟩
    have hx1 := x1.call hb1
    have hb01 := bl_call hb0 hb1
    obtain ⟨z0, z1, z2, z3⟩ := hx1.two
    go_wp2_with (fail)
    refine bodyPost_ret (results_cell_tmp rfl _ _ w.heap.size 30 _ (0, 0) _ _ rfl rfl (hx1.set2 _ _) Try.underlying30 rfl (by kernel_rfl)) rfl ?_
    exact ⟨rfl, bl_set (bl_set hb01 (Nat.le_refl _) _) (Nat.le_refl _) _⟩
set_option maxRecDepth 100000 in
set_option maxHeartbeats 4000000 in
theorem rChance_c (A : Option Addr) (l : List It) (cap : Nat) (w : World) (hlen : l.length ≤ 1000) (hr : Rd w A (cellsI l)) :
    Calls Try.prog 30 #[.slice A l.length cap] w fun e w' => e = .returned (.tuple #[.agg #[.int .i64 (chnG l).1, .int .i64 (chnG l).2], .int .i64 (chnE l)]) ∧ Below w.heap.size w w' := by
  have hb0 : Below w.heap.size w (w.alloc (.cells #[.int .i64 0, .int .i64 0] 30)) := bl_alloc (Below.refl _ _) _
  have HV := Lib.hid (rValidate_c A l cap _ hlen (hr.later hb0))
  have x1 : Bx (w.alloc (.cells #[.int .i64 0, .int .i64 0] 30)) w.heap.size 30 #[.int .i64 0, .int .i64 0] := Bx.newAt rfl
  by_cases hv : valE l = 0
  rotate_left
  · have hE : chnE l = valE l := by unfold chnE; rw [if_neg hv]
    have hG : chnG l = (0, 0) := by unfold chnG; rw [hE, if_neg hv]
    have hv' : (valE l == 0) = false := by rw [beq_eq_false_iff_ne]; exact hv
    rw [hG, hE]
    generalize valE l = z at *
    clear hE hG
    go_enter Try.func30, Try.ntmps30
    go_wp2_with (fail)
    refine HV.out.mono ?_
    rintro e w1 ⟨rfl, hb1⟩
    have hx1 := x1.call hb1
    have hb01 := bl_call hb0 hb1
    obtain ⟨z0, z1, z2, z3⟩ := hx1.two
    go_wp2_with (fail)
    refine bodyPost_ret (results_cell_tmp rfl _ _ w.heap.size 30 _ (0, 0) _ _ rfl rfl (hx1.set2 _ _) Try.underlying30 rfl (by kernel_rfl)) rfl ?_
    exact ⟨rfl, bl_set (bl_set hb01 (Nat.le_refl _) _) (Nat.le_refl _) _⟩
  have hok := val_ok hv
  have hl := (valE_ok hv).1
  rw [hv] at HV
  have HE : Hid (chnE l = if 8 < usesL l then 3 else 0) := by show _ = _; unfold chnE; rw [if_pos hv]
  have HG : Hid (8 < usesL l → chnG l = (0, 0)) := fun h => by unfold chnG; rw [HE.out, if_pos h]; rfl
  have HG2 : Hid (¬ 8 < usesL l → chnG l = chanceL l) := fun h => by unfold chnG; rw [HE.out, if_neg h]; rfl
  have HA : Hid (usesL l = usesTo l l.length) := rfl
  have HS : Hid (∀ k, usesTo l (k + 1) = usesTo l k + (l.getD k it0).u) := fun k => rfl
  have H0 : Hid (usesTo l 0 = 0) := rfl
  have HB := Lib.hid (fun k (hk : k ≤ l.length) => And.intro (uses_pos hok k hk) (uses_bound hok k hk))
  have N0 : Hid (noneTo l 0 = (1, 1)) := rfl
  have NA : Hid (noneTo l l.length = noneL l) := rfl
  have NS : Hid (∀ k, useTo (l.getD k it0) (noneTo l k) (l.getD k it0).u.toNat = noneTo l (k + 1)) := fun k => rfl
  have NS0 : Hid (∀ k, useTo (l.getD k it0) (noneTo l k) 0 = noneTo l k) := fun k => rfl
  have NX : Hid (∀ k j, useTo (l.getD k it0) (noneTo l k) (j + 1) = ((useTo (l.getD k it0) (noneTo l k) j).1 * ((l.getD k it0).d - (l.getD k it0).n), (useTo (l.getD k it0) (noneTo l k) j).2 * (l.getD k it0).d)) := fun k j => rfl
  have NB := Lib.hid fun (hu8 : usesL l ≤ 8) k (hk : k < l.length) j (hj : j < (l.getD k it0).u.toNat) => (by
    obtain ⟨s1, s2⟩ := none_small hok hu8 hk (j := j + 1) hj
    exact s1.small s2)
  have NF := Lib.hid fun (hu8 : usesL l ≤ 8) => (by
    obtain ⟨s1, s2⟩ := chance_safe hok hu8
    exact s1.small s2)
  have HD := Lib.hid (fun k (hk : k < l.length) => (hok k hk).den)
  have HUN := Lib.hid fun k (hk : k < l.length) => (⟨(l.getD k it0).u.toNat, by have := (hok k hk).u0; omega, (hok k hk).um⟩ : ∃ U : Nat, (l.getD k it0).u = (U : Int) ∧ (l.getD k it0).u ≤ 8)
  clear hok hv
  go_enter Try.func30, Try.ntmps30
  go_wp2_with (fail)
  refine HV.out.mono ?_
  rintro e w1 ⟨rfl, hb1⟩
  have hx1 := x1.call hb1
  have hb01 := bl_call hb0 hb1
  clear x1 hb0 hb1 HV
  go_wp2_with (fail)
  go_loopg [5, 8] l.length (fun gk sv iv wr => ∃ k : Nat, Hid (k + gk = l.length) ∧ sv = .int .i64 (usesTo l k) ∧ iv = .int .i64 (k : Int) ∧ Bx wr w.heap.size 30 #[.int .i64 0, .int .i64 0] ∧ Below w.heap.size w wr)
  case atStart => exact ⟨0, by simp [Hid], by rw [H0.out], rfl, hx1, hb01⟩
  case round =>
    clear hx1 hb01
    obtain ⟨k, HK, rfl, rfl, hx, hb⟩ := hrel
    rcases gk with _ | gi
    · obtain rfl : k = l.length := HK.out
      rw [← HA.out]
      clear HA HS H0 HB
      by_cases hu : 8 < usesL l
      · have HEc : Hid (chnE l = 3) := by show _ = _; rw [HE.out, if_pos hu]
        have HGc := Lib.hid (HG.out hu)
        clear HE HG HG2 NB NF
        generalize usesL l = us at *
        obtain ⟨z0, z1, z2, z3⟩ := hx.two
        go_wp2_with (fail)
        refine bodyPost_ret (results_cell_tmp rfl _ _ w.heap.size 30 _ (0, 0) _ _ rfl rfl (hx.set2 _ _) Try.underlying30 rfl (by kernel_rfl)) rfl ?_
        exact ⟨by rw [HEc.out, HGc.out]; rfl, bl_set (bl_set hb (Nat.le_refl _) _) (Nat.le_refl _) _⟩
      · have HEc : Hid (chnE l = 0) := by show _ = _; rw [HE.out, if_neg hu]
        have HGc := Lib.hid (HG2.out (by first | exact hu | omega))
        have NB8 := Lib.hid (NB.out (by omega))
        have NF8 := NF.out (by omega)
        have HQ := fun w => Lib.hid (rRatio_c ((noneL l).2 - (noneL l).1) (noneL l).2 w (by omega) (by omega))
        rw [show low ((noneL l).2 - (noneL l).1) (noneL l).2 = chanceL l from rfl] at HQ
        have qe : wrap64 ((noneL l).2 - (noneL l).1) = (noneL l).2 - (noneL l).1 := IntWalk.wrap64_in _ (by omega)
        clear HE HG HG2 NB NF NF8
        generalize usesL l = us at *
        generalize chanceL l = ch at *
        generalize noneL l = nl at *
        go_wp2_with (fail)
        go_loopg [6, 7, 9] l.length (fun gk nv dv iv wr => ∃ k : Nat, Hid (k + gk = l.length) ∧ nv = .int .i64 (noneTo l k).1 ∧ dv = .int .i64 (noneTo l k).2 ∧ iv = .int .i64 (k : Int) ∧ Bx wr w.heap.size 30 #[.int .i64 0, .int .i64 0] ∧ Below w.heap.size w wr)
        case atStart => exact ⟨0, by simp [Hid], by rw [N0.out], by rw [N0.out], rfl, hx, hb⟩
        case round =>
          clear hx hb
          obtain ⟨k, HK, rfl, rfl, rfl, hx, hb⟩ := hrel
          rcases gk with _ | gi
          · obtain rfl : k = l.length := HK.out
            rw [NA.out]
            go_wp2_with (fail)
            refine (HQ _).out.mono ?_
            rintro e w4 ⟨rfl, hb4⟩
            have x4 := hx.call hb4
            have hbb := bl_call hb hb4
            obtain ⟨z0, z1, z2, z3⟩ := x4.two
            go_wp2_with (fail)
            refine bodyPost_ret (results_cell_tmp rfl _ _ w.heap.size 30 _ (0, 0) _ _ rfl rfl (x4.set2 _ _) Try.underlying30 rfl (by kernel_rfl)) rfl ?_
            exact ⟨by rw [HEc.out, HGc.out]; rfl, bl_set (bl_set hbb (Nat.le_refl _) _) (Nat.le_refl _) _⟩
          · have hkN : k < l.length := by have := HK.out; omega
            have hkN' : (k : Int) < (l.length : Int) := by omega
            obtain ⟨b, o, rfl, HI⟩ := hr.itms hkN
            replace HI := Lib.hid HI
            obtain ⟨g1, g2, g3, g4⟩ := HD.out k hkN
            have e0 : wrap64 ((l.getD k it0).d - (l.getD k it0).n) = (l.getD k it0).d - (l.getD k it0).n := IntWalk.wrap64_in _ (by omega)
            obtain ⟨U, hU, hU8⟩ := HUN.out k hkN
            have NSk := Lib.hid (NS.out k)
            have NS0k := Lib.hid (NS0.out k)
            have NXk := Lib.hid (NX.out k)
            have NBk := Lib.hid (NB8.out k hkN)
            rw [hU, Int.toNat_natCast] at NSk
            simp only [hU, Int.toNat_natCast] at NBk
            rw [hU] at HI hU8
            clear hU g1 g2 g3 g4 HUN NS NS0 NX NB8 HD N0 NA HQ qe
            generalize (l.getD k it0) = x at *
            generalize noneTo l k = s0 at *
            generalize hsn : noneTo l (k + 1) = sn at *
            have HSN : Hid (noneTo l (k + 1) = sn) := hsn
            clear hsn
            go_wp2_with (fail)
            go_loopg [6, 7, 10] U (fun gk nv dv jv wr => ∃ j : Nat, Hid (j + gk = U) ∧ nv = .int .i64 (useTo x s0 j).1 ∧ dv = .int .i64 (useTo x s0 j).2 ∧ jv = .int .i64 (j : Int) ∧ Bx wr w.heap.size 30 #[.int .i64 0, .int .i64 0] ∧ Below w.heap.size w wr)
            case atStart => exact ⟨0, by simp [Hid], by rw [NS0k.out], by rw [NS0k.out], rfl, hx, hb⟩
            case round =>
              clear hx hb
              obtain ⟨j, HJ, rfl, rfl, rfl, hx, hb⟩ := hrel
              obtain ⟨c0, c1, c2⟩ := HI.out wr hb
              rcases gk with _ | gq
              · obtain rfl : j = U := HJ.out
                rw [NSk.out]
                go_wp2_with (fail)
                go_roundg gi
                case rel => exact ⟨k + 1, by have := HK.out; show _ = _; omega, by rw [HSN.out], by rw [HSN.out], by go_num, hx, hb⟩
                case measure => omega
              · have hjN : j < U := by have := HJ.out; omega
                have hjN' : (j : Int) < (U : Int) := by omega
                have NXj := Lib.hid (NXk.out j)
                have nb := NBk.out j hjN
                rw [NXj.out] at nb
                generalize useTo x s0 j = p at *
                have e1 : wrap64 (p.1 * (x.d - x.n)) = p.1 * (x.d - x.n) := IntWalk.wrap64_in _ (by have := nb.1; have := nb.2.1; have := nb.2.2.2; simp only at *; omega)
                have e2 : wrap64 (p.2 * x.d) = p.2 * x.d := IntWalk.wrap64_in _ (by have := nb.2.2; simp only at *; omega)
                clear nb
                have hd : Below wr.heap.size wr wr.drew := (Below.refl _ _).drew
                go_wp2_with (fail)
                refine wp_region_low (hd) (by kernel_rfl) (by kernel_rfl) ?_
                repeat (first
                  | go_big_quiet_skip
                  | (go_big_quiet_want
                     apply Exists.intro
                     refine And.intro (fun W hW => ?_) ?_
                     · (obtain ⟨cc0, cc1, cc2⟩ := HI.out W (bl_call hb hW))
                       go_simp
                       first
                         | exact rfl
                         | (fail)
                     try go_simp
                     go_big_quiet_on))
                refine wpQuiet_nil ?_
                intro w9 hb9
                obtain ⟨d0, d1, d2⟩ := HI.out w9 (bl_call hb hb9)
                go_wp2_with (fail)
                go_roundg gq
                case rel => exact ⟨j + 1, by have := HJ.out; show _ = _; omega, by rw [NXj.out]; simp only [IntWalk.i64_left, e0, e1], by rw [NXj.out]; simp only [e2], by go_num, hx.call hb9, bl_call hb hb9⟩
                case measure => omega
    · have hkN : k < l.length := by have := HK.out; omega
      have hkN' : (k : Int) < (l.length : Int) := by omega
      obtain ⟨b, o, rfl, _, c0, c1, c2⟩ := (hr.later hb).itm hkN
      have HSk := Lib.hid (HS.out k)
      have hin := HB.out (k + 1) (by omega)
      rw [HSk.out] at hin
      have e : wrap64 (usesTo l k + (l.getD k it0).u) = usesTo l k + (l.getD k it0).u := IntWalk.wrap64_in _ ⟨by omega, by omega⟩
      clear hin HE HG HG2 NB NF N0 NA NS NS0 NX HD HUN
      generalize usesTo l k = s at *
      generalize (l.getD k it0).u = u at *
      generalize (l.getD k it0).n = n at *
      generalize (l.getD k it0).d = d at *
      go_wp2_with (fail)
      go_roundg gi
      case rel => exact ⟨k + 1, by have := HK.out; show _ = _; omega, by rw [HSk.out]; first | rfl | rw [e], by go_num, hx, hb⟩
      case measure => omega
end Go.Proofs.Ytgbjglkiaoplmaa
