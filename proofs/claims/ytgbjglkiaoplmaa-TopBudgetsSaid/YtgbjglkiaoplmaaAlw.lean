/- Parts of a limit: package budget's Allow. -/
import Derived.Test.YtgbjglkiaoplmaaRws
import Derived.Test.YtgbjglkiaoplmaaCls
namespace Go.Proofs.Ytgbjglkiaoplmaa
open Go.RowKit

def sumTo (ps : List Int) : Nat → Int
  | 0 => 0
  | k + 1 => sumTo ps k + ps.getD k 0
def prB (ps : List Int) (k : Nat) : Bool := inB (ps.getD k 0) 0 1000000
def shB (l : List It) (d : Int) (ps : List Int) (k : Nat) : Bool := decide (shK l k * d ≤ ps.getD k 0 * 2520)
def alwE (l : List It) (n d : Int) (ps : List Int) : Int :=
  if clsE l n d = 0 then (if ps.length = l.length then (if ∀ k, k < ps.length → prB ps k = true then (if n < sumTo ps ps.length then 5 else if ∀ k, k < l.length → shB l d ps k = true then 0 else 8) else 1) else 1) else clsE l n d
section
variable {l : List It} {n d : Int} {ps : List Int}
theorem alw_1 (h : clsE l n d ≠ 0) : alwE l n d ps = clsE l n d := by unfold alwE; rw [if_neg h]
theorem alw_2 (h : clsE l n d = 0) (h2 : ps.length ≠ l.length) : alwE l n d ps = 1 := by unfold alwE; rw [if_pos h, if_neg h2]
theorem alw_3 (h : clsE l n d = 0) (h2 : ps.length = l.length) {k : Nat} (hk : k < ps.length) (h3 : prB ps k = false) : alwE l n d ps = 1 := by
  unfold alwE; rw [if_pos h, if_pos h2, if_neg]; intro h4; have := h4 k hk; rw [h3] at this; cases this
theorem alw_4 (h : clsE l n d = 0) (h2 : ps.length = l.length) (h3 : ∀ k, k < ps.length → prB ps k = true) (h4 : n < sumTo ps ps.length) : alwE l n d ps = 5 := by
  unfold alwE; rw [if_pos h, if_pos h2, if_pos h3, if_pos h4]
theorem alw_5 (h : clsE l n d = 0) (h2 : ps.length = l.length) (h3 : ∀ k, k < ps.length → prB ps k = true) (h4 : sumTo ps ps.length ≤ n) {k : Nat} (hk : k < l.length) (h5 : shB l d ps k = false) : alwE l n d ps = 8 := by
  unfold alwE; rw [if_pos h, if_pos h2, if_pos h3, if_neg (by omega), if_neg]; intro h6; have := h6 k hk; rw [h5] at this; cases this
theorem alw_6 (h : clsE l n d = 0) (h2 : ps.length = l.length) (h3 : ∀ k, k < ps.length → prB ps k = true) (h4 : sumTo ps ps.length ≤ n) (h5 : ∀ k, k < l.length → shB l d ps k = true) : alwE l n d ps = 0 := by
  unfold alwE; rw [if_pos h, if_pos h2, if_pos h3, if_neg (by omega), if_pos h5]
theorem prB_in {k : Nat} (h : prB ps k = true) : 0 ≤ ps.getD k 0 ∧ ps.getD k 0 ≤ 1000000 := by
  unfold prB inB at h
  rw [Bool.and_eq_true, decide_eq_true_eq, decide_eq_true_eq] at h; exact h
theorem sum_in : ∀ {k : Nat}, (∀ j, j < k → prB ps j = true) → 0 ≤ sumTo ps k ∧ sumTo ps k ≤ 1000000 * k
  | 0, _ => by simp [sumTo]
  | k + 1, h => by
    have ih := sum_in (k := k) (fun j hj => h j (by omega))
    have := prB_in (h k (by omega))
    rw [sumTo]; push_cast; omega
theorem share_sum (h : ∀ k, k < l.length → shB l d ps k = true) : ∀ {k : Nat}, k ≤ l.length → partsTo l k * d ≤ sumTo ps k * 2520
  | 0, _ => by simp [partsTo, sumTo]
  | k + 1, hk => by
    have ih := share_sum h (k := k) (by omega)
    have h1 : shK l k * d ≤ ps.getD k 0 * 2520 := of_decide_eq_true (h k (by omega))
    rw [partsTo, sumTo, Int.add_mul, Int.add_mul]
    unfold shK at h1
    omega
/-- Parts that are enough close the budget. -/
theorem alw_closes (h : alwE l n d ps = 0) : clsE l n d = 0 ∧ clsG l n d = true := by
  by_cases h1 : clsE l n d = 0
  · refine ⟨h1, ?_⟩
    by_cases h2 : ps.length = l.length
    · by_cases h3 : ∀ k, k < ps.length → prB ps k = true
      · by_cases h4 : n < sumTo ps ps.length
        · rw [alw_4 h1 h2 h3 h4] at h; cases h
        · by_cases h5 : ∀ k, k < l.length → shB l d ps k = true
          · have hs := share_sum h5 (k := l.length) (Nat.le_refl _)
            unfold clsG closeB
            rw [if_pos h1, decide_eq_true_eq]
            unfold partsL
            rw [h2] at h4
            have : sumTo ps l.length * 2520 ≤ n * 2520 := Int.mul_le_mul_of_nonneg_right (by omega) (by decide)
            omega
          · unfold alwE at h; rw [if_pos h1, if_pos h2, if_pos h3, if_neg h4, if_neg h5] at h; cases h
      · unfold alwE at h; rw [if_pos h1, if_pos h2, if_neg h3] at h; cases h
    · rw [alw_2 h1 h2] at h; cases h
  · rw [alw_1 h1] at h; exact absurd h h1
end
set_option maxRecDepth 100000 in
set_option maxHeartbeats 4000000 in
theorem Allow_c (A : Option Addr) (l : List It) (cap : Nat) (n d : Int) (B : Option Addr) (ps : List Int) (cap2 : Nat) (w : World) (hlen : l.length ≤ 1000) (hlen2 : ps.length ≤ 1000) (hr : Rd w A (cellsI l)) (hs : Rd w B (ints ps)) :
    Calls Try.prog 51 #[.slice A l.length cap, .agg #[.int .i64 n, .int .i64 d], .slice B ps.length cap2] w fun e w' => e = .returned (.int .i64 (alwE l n d ps)) ∧ Below w.heap.size w w' := by
  have hb0 := bl_alloc (Below.refl w.heap.size w) (.cells #[.int .i64 n, .int .i64 d] 30)
  have x0 : Bx (w.alloc (.cells #[.int .i64 n, .int .i64 d] 30)) w.heap.size 30 #[.int .i64 n, .int .i64 d] := Bx.new w _ _
  obtain ⟨y0, y1, _, _⟩ := x0.two
  have HV := Lib.hid (validateBy_c A l cap none [] 0 n d _ hlen (by simp) (hr.later hb0) (Or.inl rfl))
  rw [byE_nil] at HV
  by_cases hc : clsE l n d = 0
  rotate_left
  · have hE := alw_1 (ps := ps) hc
    have hc' : (clsE l n d == 0) = false := by rw [beq_eq_false_iff_ne]; exact hc
    rw [hE]
    clear hE
    generalize clsE l n d = z at *
    go_enter Try.func51, Try.ntmps51
    go_wp2_with (fail)
    refine HV.out.mono ?_
    rintro e w1 ⟨rfl, hb1⟩
    go_wp2_with (fail)
    go_ret
    exact ⟨rfl, bl_call hb0 hb1⟩
  · by_cases hl : ps.length = l.length
    rotate_left
    · have hE := alw_2 hc hl
      have hl' : ((ps.length : Int) == (l.length : Int)) = false := by rw [beq_eq_false_iff_ne]; omega
      rw [hc] at HV
      rw [hE]
      clear hE hc
      replace hl := Lib.hid hl
      go_enter Try.func51, Try.ntmps51
      go_wp2_with (fail)
      refine HV.out.mono ?_
      rintro e w1 ⟨rfl, hb1⟩
      go_wp2_with (fail)
      go_ret
      exact ⟨rfl, bl_call hb0 hb1⟩
    · have hl' : ((ps.length : Int) != (l.length : Int)) = false := by rw [hl]; simp
      obtain ⟨hv, hL⟩ := clsE_ok hc
      have h6 := (valE_ok hv).1
      have HOK := Lib.hid (val_ok hv)
      obtain ⟨d0, d1, n0, n1⟩ := limB_iff.1 hL
      have H3 := Lib.hid (fun k hk h => alw_3 hc hl (k := k) hk h)
      have H4 := Lib.hid (alw_4 (n := n) hc hl)
      have H5 := Lib.hid (fun h3 h4 k hk h => alw_5 (n := n) hc hl h3 h4 (k := k) hk h)
      have H6 := Lib.hid (alw_6 (n := n) hc hl)
      have HSI := Lib.hid (fun k (h : ∀ j, j < k → prB ps j = true) => sum_in h)
      have HSS : Hid (∀ k, sumTo ps (k + 1) = sumTo ps k + ps.getD k 0) := fun k => rfl
      have HPr : Hid (∀ k, prB ps k = inB (ps.getD k 0) 0 1000000) := fun k => rfl
      have HL := Lib.hid hl
      rw [hc] at HV
      clear hc hL hv hl
      generalize alwE l n d ps = E at *
      go_enter Try.func51, Try.ntmps51
      go_wp2_with (fail)
      refine HV.out.mono ?_
      rintro e w1 ⟨rfl, hb1⟩
      have x1 := x0.call hb1
      have hb01 := bl_call hb0 hb1
      clear HV x0 y0 y1 hb0 hb1
      go_wp2_with (fail)
      go_loopg [8, 27] ps.length (fun gk sv iv wr => ∃ k : Nat, Hid (k + gk = ps.length) ∧ iv = .int .i64 (k : Int) ∧ sv = .int .i64 (sumTo ps k) ∧ Hid (∀ j, j < k → prB ps j = true) ∧ Bx wr w.heap.size 30 #[.int .i64 n, .int .i64 d] ∧ Below w.heap.size w wr)
      case atStart => exact ⟨0, by simp [Hid], rfl, rfl, fun j h => absurd h (by omega), x1, hb01⟩
      case round =>
        clear x1 hb01
        obtain ⟨k, HK, rfl, rfl, HP, hx, hb⟩ := hrel
        rcases gk with _ | gi
        · obtain rfl : k = ps.length := HK.out
          obtain ⟨z0, z1, _, _⟩ := hx.two
          by_cases hn : n < sumTo ps ps.length
          · have hE := Lib.hid (H4.out HP.out hn)
            generalize sumTo ps ps.length = S at *
            go_wp2_with (fail)
            go_ret
            exact ⟨ret_i hE.out, hb⟩
          · have H5n := Lib.hid (H5.out HP.out (by omega))
            have H6n := Lib.hid (H6.out HP.out (by omega))
            have HPo := HP
            clear H5 H6 H4 H3 HP
            generalize sumTo ps ps.length = S at *
            go_wp2_with (fail)
            go_loopg [44] l.length (fun gk iv wr => ∃ k : Nat, Hid (k + gk = l.length) ∧ iv = .int .i64 (k : Int) ∧ Hid (∀ j, j < k → shB l d ps j = true) ∧ Bx wr w.heap.size 30 #[.int .i64 n, .int .i64 d] ∧ Below w.heap.size w wr)
            case atStart => exact ⟨0, by simp [Hid], rfl, fun j h => absurd h (by omega), hx, hb⟩
            case round =>
              clear hx hb z0 z1
              obtain ⟨k, HK, rfl, HP, hx, hb⟩ := hrel
              rcases gk with _ | gi
              · obtain rfl : k = l.length := HK.out
                have hE := Lib.hid (H6n.out HP.out)
                go_wp2_with (fail)
                go_ret
                exact ⟨ret_i hE.out, hb⟩
              · have hkl : k < l.length := by have := HK.out; omega
                have hkl' : (k : Int) < (l.length : Int) := by omega
                have hkp : k < ps.length := by have := HL.out; omega
                have hkp' : (k : Int) < (ps.length : Int) := by omega
                obtain ⟨b1, o1, rfl, _, c0, c1, c2⟩ := (hr.later hb).itm hkl
                obtain ⟨b2, o2, rfl, hbl2, e0⟩ := (hs.later hb).one hkp
                have hpk := prB_in (HPo.out k hkp)
                have HE : Hid (shB l d ps k = false → E = 8) := fun h => H5n.out k hkl h
                have HG : Hid (shB l d ps k = true → ∀ j, j < k + 1 → shB l d ps j = true) := fun h j hj => by
                  rcases Nat.lt_or_ge j k with x | x
                  · exact HP.out j x
                  · obtain rfl : j = k := by omega
                    exact h
                have hq : shB l d ps k = !decide (ps.getD k 0 * (rat (shK l k)).2 < (rat (shK l k)).1 * d) := by
                  unfold shB
                  rw [Bool.eq_iff_iff, decide_eq_true_eq, Bool.not_eq_true', decide_eq_false_iff_not, lim_lt]
                  omega
                have hfr := rat_fr (share_cnt (HOK.out k hkl) (by decide))
                have p1 := mul_in (a := ps.getD k 0) (b := (rat (shK l k)).2) (A := 1000000) (B := 2520) hpk ⟨by have := hfr.2.1; unfold shK; omega, hfr.2.2⟩
                have p2 := mul_in (a := (rat (shK l k)).1) (b := d) (A := 50000000) (B := 1000000) ⟨hfr.1.1, hfr.1.2⟩ ⟨by omega, d1⟩
                have HLs := fun w => Lib.hid (less_c (ps.getD k 0) d (rat (shK l k)).1 (rat (shK l k)).2 w (by omega) (by omega))
                have HSh := fun w => Lib.hid (show Calls Try.prog 61 #[.agg #[.int .i64 (l.getD k it0).u, .int .i64 (l.getD k it0).n, .int .i64 (l.getD k it0).d]] w fun e w' => e = .returned (.agg #[.int .i64 (rat (shK l k)).1, .int .i64 (rat (shK l k)).2]) ∧ Below w.heap.size w w' from shareOf_c (l.getD k it0) 8 w (HOK.out k hkl) (by decide))
                rw [hq] at HE HG
                clear hq hfr p1 p2 hpk
                generalize decide (ps.getD k 0 * (rat (shK l k)).2 < (rat (shK l k)).1 * d) = z at *
                generalize rat (shK l k) = s at *
                generalize ps.getD k 0 = p at *
                generalize (l.getD k it0).u = xu at *
                generalize (l.getD k it0).n = xn at *
                generalize (l.getD k it0).d = xd at *
                have hbx := bl_alloc (Below.refl wr.heap.size wr) (.cells #[.int .i64 xu, .int .i64 xn, .int .i64 xd] 50)
                have xi : Bx (wr.alloc (.cells #[.int .i64 xu, .int .i64 xn, .int .i64 xd] 50)) wr.heap.size 50 #[.int .i64 xu, .int .i64 xn, .int .i64 xd] := Bx.new wr _ _
                have hx1 := hx.call hbx
                have hbb := bl_call hb hbx
                have hW : ∀ o, (wr.alloc (.cells #[.int .i64 xu, .int .i64 xn, .int .i64 xd] 50)).cell? ⟨b2, o, none⟩ = wr.cell? ⟨b2, o, none⟩ := fun o => hbx.cell (p := ⟨b2, o, none⟩) hbl2
                have e1 := (hW (o2 + k)).trans e0
                have hbl3 : b2 < (wr.alloc (.cells #[.int .i64 xu, .int .i64 xn, .int .i64 xd] 50)).heap.size := by rw [World.size_alloc]; omega
                clear hb hx hbx hW e0
                go_wp2_with (fail)
                generalize wr.alloc (.cells #[.int .i64 xu, .int .i64 xn, .int .i64 xd] 50) = W0 at *
                obtain ⟨v0, v1, _, _⟩ := hx1.two
                obtain ⟨v2, v3, _, _⟩ := hx1.drew.two
                have e2 : W0.drew.cell? ⟨b2, o2 + k, none⟩ = some (.int .i64 p) := e1
                have hz := bl_alloc (Below.refl W0.heap.size W0) (.cells #[.int .i64 0, .int .i64 0] 78)
                have e3 := (hz.cell (p := ⟨b2, o2 + k, none⟩) hbl3).trans e1
                obtain ⟨v4, v5, _, _⟩ := (hx1.call hz).two
                have hal := (bl_alloc (Below.refl W0.heap.size W0) (.cells #[.int .i64 p, .int .i64 d] 78)).drew
                have xf : Bx (W0.alloc (.cells #[.int .i64 p, .int .i64 d] 78)).drew W0.heap.size 78 #[.int .i64 p, .int .i64 d] := (Bx.new W0 _ _).drew
                have xi6 := xi.call hal
                have hx6 := hx1.call hal
                have hbb6 := bl_call hbb hal
                go_region_law (fail)
                all_goals
                  clear e1 e2 e3 c0 c1 c2 hx1 xi hbb hal v0 v1 v2 v3 v4 v5 hz
                  go_wp2_with (fail)
                  generalize (W0.alloc (.cells #[.int .i64 p, .int .i64 d] 78)).drew = W6 at *
                  have hdr6 : Below W6.heap.size W6 W6.drew := (Below.refl _ _).drew
                  have HC6 := Lib.hid (fun W (hW : Below W6.heap.size W6 W) => And.intro (xi6.call hW).three (xf.call hW).two)
                  refine wp_region_low (hdr6) (by kernel_rfl) (by kernel_rfl) ?_
                  repeat (first
                    | go_big_quiet_skip
                    | (go_big_quiet_want
                       apply Exists.intro
                       refine And.intro (fun W hW => ?_) ?_
                       · (obtain ⟨⟨g0, g1, g2, _, _, _⟩, g3, g4, _, _⟩ := HC6.out W hW)
                         go_simp
                         first
                           | exact rfl
                           | (first | (with_reducible refine (HSh W).out.mono ?_; rintro e w1 ⟨rfl, hb1⟩; exact ⟨rfl, bl_call hW hb1⟩) | (with_reducible refine (HLs W).out.mono ?_; rintro e w1 ⟨rfl, hb1⟩; exact ⟨rfl, bl_call hW hb1⟩))
                       try go_simp
                       go_big_quiet_on))
                  refine wpQuiet_nil ?_
                  intro w9 hb9
                  have hx9 := hx6.call hb9
                  have hbb9 := bl_call hbb6 hb9
                  clear HC6 hx6 xi6 xf hbb6 hb9
                  cases z with
                  | true =>
                    have hE := Lib.hid (HE.out rfl)
                    go_wp2_with (fail)
                    go_ret
                    exact ⟨ret_i hE.out, hbb9⟩
                  | false =>
                    have hG := Lib.hid (HG.out rfl)
                    go_wp2_with (fail)
                    go_roundg gi
                    case rel => exact ⟨k + 1, by have := HK.out; show _ = _; omega, by go_num, hG.out, hx9, hbb9⟩
                    case measure => omega
        · have hkp : k < ps.length := by have := HK.out; omega
          have hkp' : (k : Int) < (ps.length : Int) := by omega
          obtain ⟨b2, o2, rfl, _, e0⟩ := (hs.later hb).one hkp
          have HI := fun w => Lib.hid (isPart_c (ps.getD k 0) w)
          have HSk := Lib.hid (HSS.out k)
          have HE := Lib.hid (H3.out k hkp)
          have hin := HSI.out k HP.out
          have HG : Hid (prB ps k = true → ∀ j, j < k + 1 → prB ps j = true) := fun h j hj => by
            rcases Nat.lt_or_ge j k with x | x
            · exact HP.out j x
            · obtain rfl : j = k := by omega
              exact h
          have HPI := Lib.hid (@prB_in ps k)
          rw [← HPr.out k] at HI
          have hl6 := HL.out
          cases hz : prB ps k with
          | false =>
            have hE := Lib.hid (HE.out hz)
            rw [hz] at HI
            clear hin HPI HG HE hz hl6
            generalize ps.getD k 0 = p at *
            go_wp2_with (fail)
            refine (HI _).out.mono ?_
            rintro e w2 ⟨rfl, rfl⟩
            go_wp2_with (fail)
            go_ret
            exact ⟨ret_i hE.out, hb⟩
          | true =>
            have hG := Lib.hid (HG.out hz)
            have hp := HPI.out hz
            have hw : wrap64 (sumTo ps k + ps.getD k 0) = sumTo ps k + ps.getD k 0 := IntWalk.wrap64_in _ ⟨by omega, by omega⟩
            rw [hz] at HI
            clear hin HPI HG HE hz hp hl6
            generalize sumTo ps k = S at *
            generalize ps.getD k 0 = p at *
            go_wp2_with (fail)
            refine (HI _).out.mono ?_
            rintro e w2 ⟨rfl, rfl⟩
            go_wp2_with (fail)
            go_roundg gi
            case rel => exact ⟨k + 1, by have := HK.out; show _ = _; omega, by go_num, by rw [HSk.out]; first | rfl | rw [hw], hG.out, hx, hb⟩
            case measure => omega
end Go.Proofs.Ytgbjglkiaoplmaa
