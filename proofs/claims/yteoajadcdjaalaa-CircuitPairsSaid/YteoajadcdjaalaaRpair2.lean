/- The document's Pair and Angle. -/
import Derived.Test.YteoajadcdjaalaaRpair
import Derived.Test.YteoajadcdjaalaaRfirst
namespace Go.Proofs.Yteoajadcdjaalaa
open Go.RowKit

set_option maxRecDepth 100000 in
set_option maxHeartbeats 2000000 in
theorem rPair_c (n : Int) (A : Option Addr) (l : List G) (c : Nat) (k a b t k' a' b' t' : Int) (w : World) (hlen : l.length ≤ 1000) (hr : Rd w A (cellsG l)) :
    Calls Try.prog 51 #[.int .i64 n, .slice A l.length c, .agg #[.int .i64 k, .int .i64 a, .int .i64 b, .int .i64 t], .agg #[.int .i64 k', .int .i64 a', .int .i64 b', .int .i64 t']] w
      (OutG (pairG n l (k, a, b, t) (k', a', b', t')) (withE n l [(k, a, b, t), (k', a', b', t')]) w) := by
  have x0 := (Bx.new w 23 #[.int .i64 k, .int .i64 a, .int .i64 b, .int .i64 t]).alloc (.cells #[.int .i64 k', .int .i64 a', .int .i64 b', .int .i64 t'] 23)
  have y0 : Bx ((w.alloc (.cells #[.int .i64 k, .int .i64 a, .int .i64 b, .int .i64 t] 23)).alloc (.cells #[.int .i64 k', .int .i64 a', .int .i64 b', .int .i64 t'] 23)) (w.heap.size + 1) 23 #[.int .i64 k', .int .i64 a', .int .i64 b', .int .i64 t'] := Bx.newAt (by simp)
  have hb0 := bl_alloc (bl_alloc (Below.refl w.heap.size w) (.cells #[.int .i64 k, .int .i64 a, .int .i64 b, .int .i64 t] 23)) (.cells #[.int .i64 k', .int .i64 a', .int .i64 b', .int .i64 t'] 23)
  generalize hw0 : (w.alloc (.cells #[.int .i64 k, .int .i64 a, .int .i64 b, .int .i64 t] 23)).alloc (.cells #[.int .i64 k', .int .i64 a', .int .i64 b', .int .i64 t'] 23) = w0 at *
  have HV := Lib.hid (rvalidate_c n A l c w0 hlen (hr.later hb0))
  have HE : Hid (withE n l [(k, a, b, t), (k', a', b', t')] = if validE n l = 0 then gatesE n [(k, a, b, t), (k', a', b', t')] else validE n l) := rfl
  have HA : Hid (pairG n l (k, a, b, t) (k', a', b', t') = if withE n l [(k, a, b, t), (k', a', b', t')] = 0 then pairTo l (k, a, b, t) (k', a', b', t') l.length else []) := rfl
  have HGE : Hid (gatesE n [(k, a, b, t), (k', a', b', t')] = if isGateB n k a b t && isGateB n k' a' b' t' then 0 else 1) := by
    show _ = _
    unfold gatesE
    simp [gateB]
  by_cases hv : validE n l = 0
  · obtain ⟨hn1, hn4⟩ := validE_n hv
    rw [hv] at HV
    rw [if_pos hv] at HE
    rw [HE.out, HGE.out] at HA
    rw [HE.out, HGE.out]
    have G1 := fun w => Lib.hid (risGate_c n k a b t w hn1 hn4)
    have G2 := fun w => Lib.hid (risGate_c n k' a' b' t' w hn1 hn4)
    clear HGE HE
    generalize isGateB n k a b t = g1 at *
    generalize isGateB n k' a' b' t' = g2 at *
    cases g1 with
    | false =>
      have HA' := HA.out
      simp at HA'
      rw [HA']
      clear HA HA'
      go_enter Try.func51, Try.ntmps51
      go_wp2_with (fail)
      refine HV.out.mono ?_
      rintro e w1 ⟨rfl, hb1⟩
      obtain ⟨i1, i2, i3, i4, _, _, _, _⟩ := (x0.call hb1).four
      obtain ⟨j1, j2, j3, j4, _, _, _, _⟩ := (y0.call hb1).four
      go_wp2_with (fail)
      refine (G1 _).out.mono ?_
      rintro e w2 ⟨rfl, hb2⟩
      go_wp2_with (fail)
      go_ret2
      exact ⟨none, 0, rfl, World.ownsRow_nil _ _ _ _, bl_call hb0 (bl_call hb1 hb2)⟩
    | true =>
      cases g2 with
      | false =>
        have HA' := HA.out
        simp at HA'
        rw [HA']
        clear HA HA'
        go_enter Try.func51, Try.ntmps51
        go_wp2_with (fail)
        refine HV.out.mono ?_
        rintro e w1 ⟨rfl, hb1⟩
        obtain ⟨i1, i2, i3, i4, _, _, _, _⟩ := (x0.call hb1).four
        go_wp2_with (fail)
        refine (G1 _).out.mono ?_
        rintro e w2 ⟨rfl, hb2⟩
        have hb12 := bl_call hb1 hb2
        obtain ⟨j1, j2, j3, j4, _, _, _, _⟩ := (y0.call hb12).four
        go_wp2_with (fail)
        refine (G2 _).out.mono ?_
        rintro e w3 ⟨rfl, hb3⟩
        go_wp2_with (fail)
        go_ret2
        exact ⟨none, 0, rfl, World.ownsRow_nil _ _ _ _, bl_call hb0 (bl_call hb12 hb3)⟩
      | true =>
        have HA' := HA.out
        simp at HA'
        rw [HA']
        have HP := fun w1 hr1 => Lib.hid (rpair_c A l c k a b t k' a' b' t' w1 hlen hr1)
        clear HA HA'
        go_enter Try.func51, Try.ntmps51
        go_wp2_with (fail)
        refine HV.out.mono ?_
        rintro e w1 ⟨rfl, hb1⟩
        obtain ⟨i1, i2, i3, i4, _, _, _, _⟩ := (x0.call hb1).four
        go_wp2_with (fail)
        refine (G1 _).out.mono ?_
        rintro e w2 ⟨rfl, hb2⟩
        have hb12 := bl_call hb1 hb2
        clear i1 i2 i3 i4
        obtain ⟨j1, j2, j3, j4, _, _, _, _⟩ := (y0.call hb12).four
        go_wp2_with (fail)
        refine (G2 _).out.mono ?_
        rintro e w3 ⟨rfl, hb3⟩
        have hb13 := bl_call hb12 hb3
        clear j1 j2 j3 j4
        obtain ⟨i1, i2, i3, i4, _, _, _, _⟩ := (x0.call hb13).four
        obtain ⟨j1, j2, j3, j4, _, _, _, _⟩ := (y0.call hb13).four
        go_wp2_with (fail)
        refine (HP _ (hr.later (bl_call hb0 hb13))).out.mono ?_
        rintro e w4 ⟨A4, c4, rfl, ho4, hb4⟩
        go_wp2_with (fail)
        go_ret2
        exact ⟨A4, c4, rfl, own_base ho4 (by have := hb0.size; have := hb13.size; omega), bl_call hb0 (bl_call hb13 hb4)⟩
  · rw [if_neg hv] at HE
    rw [HE.out, if_neg hv] at HA
    rw [HE.out, HA.out]
    clear HE HA HGE
    generalize validE n l = ev at *
    go_enter Try.func51, Try.ntmps51
    go_wp2_with (fail)
    refine HV.out.mono ?_
    rintro e w1 ⟨rfl, hb1⟩
    go_wp2_with (fail)
    go_ret2
    exact ⟨none, 0, rfl, World.ownsRow_nil _ _ _ _, bl_call hb0 hb1⟩

set_option maxRecDepth 100000 in
set_option maxHeartbeats 2000000 in
theorem rAngle_c (n : Int) (A : Option Addr) (l : List G) (c : Nat) (k a b t : Int) (w : World) (hlen : l.length ≤ 1000) (hr : Rd w A (cellsG l)) :
    Calls Try.prog 52 #[.int .i64 n, .slice A l.length c, .agg #[.int .i64 k, .int .i64 a, .int .i64 b, .int .i64 t]] w fun e w' => e = .returned (.tuple #[.int .i64 (angleE n l (k, a, b, t)), .int .i64 (withE n l [(k, a, b, t)])]) ∧ Below w.heap.size w w' := by
  have x0 := Bx.new w 23 #[.int .i64 k, .int .i64 a, .int .i64 b, .int .i64 t]
  have hb0 := bl_alloc (Below.refl w.heap.size w) (.cells #[.int .i64 k, .int .i64 a, .int .i64 b, .int .i64 t] 23)
  generalize hw0 : w.alloc (.cells #[.int .i64 k, .int .i64 a, .int .i64 b, .int .i64 t] 23) = w0 at *
  have HV := Lib.hid (rvalidate_c n A l c w0 hlen (hr.later hb0))
  have HE : Hid (withE n l [(k, a, b, t)] = if validE n l = 0 then gatesE n [(k, a, b, t)] else validE n l) := rfl
  have HA : Hid (angleE n l (k, a, b, t) = if withE n l [(k, a, b, t)] = 0 then sumTo l (k, a, b, t) l.length % 16 else 0) := rfl
  have HGE : Hid (gatesE n [(k, a, b, t)] = if isGateB n k a b t then 0 else 1) := by
    show _ = _
    unfold gatesE
    simp [gateB]
  by_cases hv : validE n l = 0
  · obtain ⟨hn1, hn4⟩ := validE_n hv
    obtain ⟨h10, hang, _⟩ := gatesE_ang hv
    have HSR := sumTo_range (k, a, b, t) hang
    rw [hv] at HV
    rw [if_pos hv] at HE
    rw [HE.out, HGE.out] at HA
    rw [HE.out, HGE.out]
    have G1 := fun w => Lib.hid (risGate_c n k a b t w hn1 hn4)
    clear HGE HE
    generalize isGateB n k a b t = g1 at *
    cases g1 with
    | false =>
      have HA' := HA.out
      simp at HA'
      rw [HA']
      clear HA HA'
      go_enter Try.func52, Try.ntmps52
      go_wp2_with (fail)
      refine HV.out.mono ?_
      rintro e w1 ⟨rfl, hb1⟩
      obtain ⟨i1, i2, i3, i4, _, _, _, _⟩ := (x0.call hb1).four
      go_wp2_with (fail)
      refine (G1 _).out.mono ?_
      rintro e w2 ⟨rfl, hb2⟩
      go_wp2_with (fail)
      go_ret2
      exact ⟨rfl, bl_call hb0 (bl_call hb1 hb2)⟩
    | true =>
      have HA' := HA.out
      simp at HA'
      rw [HA']
      clear HA HA'
      have HT0 := fun w => Lib.hid (rType_c k a b t w)
      go_enter Try.func52, Try.ntmps52
      go_wp2_with (fail)
      refine HV.out.mono ?_
      rintro e w1 ⟨rfl, hb1⟩
      obtain ⟨i1, i2, i3, i4, _, _, _, _⟩ := (x0.call hb1).four
      go_wp2_with (fail)
      refine (G1 _).out.mono ?_
      rintro e w2 ⟨rfl, hb2⟩
      have hb12 := bl_call hb1 hb2
      clear i1 i2 i3 i4
      have hr2 := hr.later (bl_call hb0 hb12)
      have x2 := x0.call hb12
      go_wp2_with (fail)
      go_loopg [9, 10] l.length (fun gk sv iv wr => ∃ q : Nat, q + gk = l.length ∧ iv = .int .i64 (q : Int) ∧ sv = .int .i64 (sumTo l (k, a, b, t) q) ∧ Below w2.heap.size w2 wr)
      case atStart => exact ⟨0, by omega, rfl, rfl, Below.refl _ _⟩
      case round =>
        obtain ⟨q, hq, rfl, rfl, hb3⟩ := hrel
        rcases gk with _ | gi
        · obtain rfl : q = l.length := by omega
          have hs := HSR l.length (Nat.le_refl _)
          generalize hsm : sumTo l (k, a, b, t) l.length = sm at *
          have HM : Hid (sumTo l (k, a, b, t) l.length % 16 = sm % 16) := by show _ = _; rw [hsm]
          clear hsm HSR
          go_wp2_with (fail)
          go_ret2
          exact ⟨by rw [HM.out]; rfl, bl_call hb0 (bl_call hb12 hb3)⟩
        · have hql : q < l.length := by omega
          have hql' : (q : Int) < (l.length : Int) := by omega
          obtain ⟨b1, o1, rfl, hG⟩ := gate_at (hr2.later hb3) hql
          obtain ⟨c0, c1, c2, c3⟩ := hG.out wr (Below.refl _ _)
          have hs := HSR q (by omega)
          have hs1 := HSR (q + 1) (by omega)
          have HX : Hid (sumTo l (k, a, b, t) (q + 1) = if typeG (l.getD q g0) (k, a, b, t) then sumTo l (k, a, b, t) q + (l.getD q g0).2.2.2 else sumTo l (k, a, b, t) q) := rfl
          generalize l.getD q g0 = x at *
          obtain ⟨xk, xa, xb, xt⟩ := x
          simp only [] at c0 c1 c2 c3 hG
          have HTx := fun w => Lib.hid (rType_c xk xa xb xt w)
          have hF : Hid (∀ w1, Below wr.heap.size wr w1 → w1.cell? ⟨w.heap.size, 0, none⟩ = some (.int .i64 k) ∧ w1.cell? ⟨w.heap.size, 1, none⟩ = some (.int .i64 a) ∧ w1.cell? ⟨w.heap.size, 2, none⟩ = some (.int .i64 b) ∧ w1.cell? ⟨w.heap.size, 3, none⟩ = some (.int .i64 t)) := fun w1 h1 => by
            obtain ⟨p1, p2, p3, p4, _, _, _, _⟩ := (x2.call (bl_call hb3 h1)).four
            exact ⟨p1, p2, p3, p4⟩
          have HT : Hid (typeG (xk, xa, xb, xt) (k, a, b, t) = typeB xk xa xb k a b) := rfl
          have HXy : Hid (typeB xk xa xb k a b = true → sumTo l (k, a, b, t) (q + 1) = sumTo l (k, a, b, t) q + xt) := fun h => by rw [HX.out, HT.out, if_pos h]
          have HXn : Hid (typeB xk xa xb k a b = false → sumTo l (k, a, b, t) (q + 1) = sumTo l (k, a, b, t) q) := fun h => by rw [HX.out, HT.out, h]; rfl
          have hCC : Below wr.heap.size wr wr.drew := (Below.refl _ _).drew
          clear HX HT HSR
          rcases type_cases xk xa xb k a b with ⟨ht, hn⟩ | ⟨ht, rfl, hn⟩ | ⟨ht, rfl, rfl, hn⟩ | ⟨ht, rfl, rfl, rfl⟩
          · go_wp2_with (fail)
            refine wp_region_low (hCC) (by kernel_rfl) (by kernel_rfl) ?_
            repeat (first
              | go_big_quiet_skip
              | (go_big_quiet_want
                 apply Exists.intro
                 refine And.intro (fun W hW => ?_) ?_
                 · (obtain ⟨p0, p1, p2, p3⟩ := hF.out W hW; obtain ⟨r0, r1, r2, r3⟩ := hG.out W hW)
                   go_simp
                   first
                     | exact rfl
                     | (first | (refine (HTx W).out.mono ?_; rintro e w1 ⟨rfl, hb1⟩; exact ⟨rfl, bl_call hW hb1⟩) | (refine (HT0 W).out.mono ?_; rintro e w1 ⟨rfl, hb1⟩; exact ⟨rfl, bl_call hW hb1⟩))
                 try go_simp
                 go_big_quiet_on))
            refine wpQuiet_nil ?_
            intro w9 hb9
            have HX' := Lib.hid (HXn.out ht)
            go_wp2_with (fail)
            go_roundg gi
            case rel => exact ⟨q + 1, by omega, by go_num, by rw [HX'.out], bl_call hb3 hb9⟩
            case measure => omega
          · go_wp2_with (fail)
            refine wp_region_low (hCC) (by kernel_rfl) (by kernel_rfl) ?_
            repeat (first
              | go_big_quiet_skip
              | (go_big_quiet_want
                 apply Exists.intro
                 refine And.intro (fun W hW => ?_) ?_
                 · (obtain ⟨p0, p1, p2, p3⟩ := hF.out W hW; obtain ⟨r0, r1, r2, r3⟩ := hG.out W hW)
                   go_simp
                   first
                     | exact rfl
                     | (first | (refine (HTx W).out.mono ?_; rintro e w1 ⟨rfl, hb1⟩; exact ⟨rfl, bl_call hW hb1⟩) | (refine (HT0 W).out.mono ?_; rintro e w1 ⟨rfl, hb1⟩; exact ⟨rfl, bl_call hW hb1⟩))
                 try go_simp
                 go_big_quiet_on))
            refine wpQuiet_nil ?_
            intro w9 hb9
            have HX' := Lib.hid (HXn.out ht)
            go_wp2_with (fail)
            go_roundg gi
            case rel => exact ⟨q + 1, by omega, by go_num, by rw [HX'.out], bl_call hb3 hb9⟩
            case measure => omega
          · go_wp2_with (fail)
            refine wp_region_low (hCC) (by kernel_rfl) (by kernel_rfl) ?_
            repeat (first
              | go_big_quiet_skip
              | (go_big_quiet_want
                 apply Exists.intro
                 refine And.intro (fun W hW => ?_) ?_
                 · (obtain ⟨p0, p1, p2, p3⟩ := hF.out W hW; obtain ⟨r0, r1, r2, r3⟩ := hG.out W hW)
                   go_simp
                   first
                     | exact rfl
                     | (first | (refine (HTx W).out.mono ?_; rintro e w1 ⟨rfl, hb1⟩; exact ⟨rfl, bl_call hW hb1⟩) | (refine (HT0 W).out.mono ?_; rintro e w1 ⟨rfl, hb1⟩; exact ⟨rfl, bl_call hW hb1⟩))
                 try go_simp
                 go_big_quiet_on))
            refine wpQuiet_nil ?_
            intro w9 hb9
            have HX' := Lib.hid (HXn.out ht)
            go_wp2_with (fail)
            go_roundg gi
            case rel => exact ⟨q + 1, by omega, by go_num, by rw [HX'.out], bl_call hb3 hb9⟩
            case measure => omega
          · go_wp2_with (fail)
            refine wp_region_low (hCC) (by kernel_rfl) (by kernel_rfl) ?_
            repeat (first
              | go_big_quiet_skip
              | (go_big_quiet_want
                 apply Exists.intro
                 refine And.intro (fun W hW => ?_) ?_
                 · (obtain ⟨p0, p1, p2, p3⟩ := hF.out W hW; obtain ⟨r0, r1, r2, r3⟩ := hG.out W hW)
                   go_simp
                   first
                     | exact rfl
                     | (first | (refine (HTx W).out.mono ?_; rintro e w1 ⟨rfl, hb1⟩; exact ⟨rfl, bl_call hW hb1⟩) | (refine (HT0 W).out.mono ?_; rintro e w1 ⟨rfl, hb1⟩; exact ⟨rfl, bl_call hW hb1⟩))
                 try go_simp
                 go_big_quiet_on))
            refine wpQuiet_nil ?_
            intro w9 hb9
            have HX' := HXy.out ht
            rw [HX'] at hs1
            have HX2 := Lib.hid HX'
            obtain ⟨d0, d1, d2, d3⟩ := hG.out w9 hb9
            clear HX' HXy HXn
            go_wp2_with (fail)
            go_roundg gi
            case rel => exact ⟨q + 1, by omega, by go_num, by rw [HX2.out], bl_call hb3 hb9⟩
            case measure => omega
  · rw [if_neg hv] at HE
    rw [HE.out, if_neg hv] at HA
    rw [HE.out, HA.out]
    clear HE HA HGE
    generalize validE n l = ev at *
    go_enter Try.func52, Try.ntmps52
    go_wp2_with (fail)
    refine HV.out.mono ?_
    rintro e w1 ⟨rfl, hb1⟩
    go_wp2_with (fail)
    go_ret2
    exact ⟨rfl, bl_call hb0 hb1⟩
end Go.Proofs.Yteoajadcdjaalaa
