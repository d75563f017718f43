/- The gates that are too hot, and the smallest limit, by package heat. -/
import Derived.Test.YtlhnbknilcmleaaMom
import Derived.Test.YtlhnbknilcmleaaFew
import Derived.Test.YtlhnbknilcmleaaRhot
namespace Go.Proofs.Ytlhnbknilcmleaa
open Go.RowKit

/-- The heat before a gate. -/
def gateH (l : List T3) (k : Nat) : Int := if (l.getD k t0).1 = 1 then heatO (l.take k) (l.getD k t0).2.1 else 0
theorem gateH_hot {lim : Int} {l : List T3} (hlim : 0 ≤ lim) (k : Nat) : isHot lim l k = true ↔ lim < gateH l k := by
  simp only [isHot, gateH, Bool.and_eq_true, beq_iff_eq, decide_eq_true_eq]
  by_cases h : (l.getD k t0).1 = 1
  · rw [if_pos h]; exact ⟨fun x => x.2, fun x => ⟨h, x⟩⟩
  · rw [if_neg h]; exact ⟨fun x => absurd x.1 h, fun x => by omega⟩
theorem gateH_after {l : List T3} {k : Nat} (h : k < l.length) : (if (l.getD k t0).1 = 1 then heatO (l.take (k + 1)) (l.getD k t0).2.1 - (l.getD k t0).2.2 else 0) = gateH l k := by
  rw [gateH, heatO_succ _ h]
  generalize l.getD k t0 = a
  by_cases e : a.1 = 1
  · rw [if_pos e, if_pos e, hstep, if_pos rfl, if_neg (by omega)]; omega
  · rw [if_neg e, if_neg e]
theorem gateH_range {l : List T3} (ha : Acts l) (h : l.length ≤ 1000) (k : Nat) : 0 ≤ gateH l k ∧ gateH l k ≤ 100000 := by
  rw [gateH]
  split
  · have := heatO_range (ha.take k) (l.getD k t0).2.1
    rw [List.length_take] at this; omega
  · omega
def momV (l : List T3) (k : Nat) : Value := .agg #[.int .i64 (l.getD k t0).1, .int .i64 (l.getD k t0).2.1, .int .i64 (l.getD k t0).2.2, .int .i64 (heatO (l.take (k + 1)) 0), .int .i64 (heatO (l.take (k + 1)) 1), .int .i64 (heatO (l.take (k + 1)) 2), .int .i64 (heatO (l.take (k + 1)) 3)]
theorem MomK.read {w : World} {g : Nat} {l : List T3} {n k : Nat} (h : MomK w g l n) (hk : k < n) : w.cell? ⟨g, k * 7, none⟩ = some (.int .i64 (l.getD k t0).1) ∧ w.cell? ⟨g, k * 7 + 1, none⟩ = some (.int .i64 (l.getD k t0).2.1) ∧ w.cell? ⟨g, k * 7 + 2, none⟩ = some (.int .i64 (l.getD k t0).2.2) ∧
    w.cell? ⟨g, k * 7 + 3, none⟩ = some (.int .i64 (heatO (l.take (k + 1)) 0)) ∧ w.cell? ⟨g, k * 7 + 4, none⟩ = some (.int .i64 (heatO (l.take (k + 1)) 1)) ∧ w.cell? ⟨g, k * 7 + 5, none⟩ = some (.int .i64 (heatO (l.take (k + 1)) 2)) ∧ w.cell? ⟨g, k * 7 + 6, none⟩ = some (.int .i64 (heatO (l.take (k + 1)) 3)) := by
  obtain ⟨cs, h1, _, h3⟩ := h
  exact ⟨(h1.cell _).trans (h3 k hk 0 _ rfl), (h1.cell _).trans (h3 k hk 1 _ rfl), (h1.cell _).trans (h3 k hk 2 _ rfl), (h1.cell _).trans (h3 k hk 3 _ rfl), (h1.cell _).trans (h3 k hk 4 _ rfl), (h1.cell _).trans (h3 k hk 5 _ rfl), (h1.cell _).trans (h3 k hk 6 _ rfl)⟩
def momCs (k i h : Int) (S : Int → Int) : Array Value := #[.int .i64 k, .int .i64 i, .int .i64 h, .int .i64 (S 0), .int .i64 (S 1), .int .i64 (S 2), .int .i64 (S 3)]
theorem momCs_get (k i h : Int) (S : Int → Int) (h0 : 0 ≤ i) (h3 : i ≤ 3) : (momCs k i h S)[3 + i.toNat]? = some (.int .i64 (S i)) := by
  rcases (show i = 0 ∨ i = 1 ∨ i = 2 ∨ i = 3 by omega) with rfl | rfl | rfl | rfl <;> rfl

set_option maxRecDepth 100000 in
set_option maxHeartbeats 2000000 in
theorem gateHeat_c (k i h : Int) (S : Int → Int) (w : World) (h0 : 0 ≤ i) (h3 : i ≤ 3) (hS : 0 ≤ S i ∧ S i ≤ 1000000) (hh : 0 ≤ h ∧ h ≤ 1000000) :
    Calls Try.prog 65 #[.agg #[.int .i64 k, .int .i64 i, .int .i64 h, .int .i64 (S 0), .int .i64 (S 1), .int .i64 (S 2), .int .i64 (S 3)]] w fun e w' => e = .returned (.int .i64 (if k = 1 then S i - h else 0)) ∧ Below w.heap.size w w' := by
  obtain ⟨q0, q1⟩ := hS
  obtain ⟨r0, r1⟩ := hh
  have h4 : i < 4 := by omega
  have hx : Bx (w.alloc (.cells (momCs k i h S) 72)) w.heap.size 72 (momCs k i h S) := Bx.new _ _ _
  have hb0 := bl_alloc (Below.refl w.heap.size w) (.cells (momCs k i h S) 72)
  have hg := momCs_get k i h S h0 h3
  have HG := fun w => Lib.hid (isGate_c k i h w)
  obtain ⟨w0, hw0⟩ : ∃ w0, w0 = w.alloc (.cells (momCs k i h S) 72) := ⟨_, rfl⟩
  have hw0' : w0 = w.alloc (.cells #[.int .i64 k, .int .i64 i, .int .i64 h, .int .i64 (S 0), .int .i64 (S 1), .int .i64 (S 2), .int .i64 (S 3)] 72) := hw0
  rw [← hw0] at hx hb0
  by_cases k1 : k = 1
  · subst k1
    have HR : Hid ((if (1 : Int) = 1 then S i - h else 0) = S i - h) := if_pos rfl
    rw [HR.out]
    go_enter Try.func65, Try.ntmps65
    go_wp2_with (go_at_call 81; rw [← hw0']; refine (HG _).out.mono ?_; rintro e w1 ⟨rfl, hb1⟩; have c0 := (hx.call hb1).cell 0; have c1 : w1.cell? ⟨w.heap.size, 1, none⟩ = some (.int .i64 i) := (hx.call hb1).cell 1; have c2 : w1.cell? ⟨w.heap.size, 2, none⟩ = some (.int .i64 h) := (hx.call hb1).cell 2; have c3 := ((hx.call hb1).cell (3 + i.toNat)).trans hg)
    go_quiet (fail)
    go_wp2_with (fail)
    go_ret
    exact ⟨rfl, below_drewN (bl_call hb0 hb1) _⟩
  · have q2 : (k == 1) = false := by simpa using k1
    have HR : Hid ((if k = 1 then S i - h else 0) = 0) := if_neg k1
    rw [HR.out]
    clear hw0'
    go_enter Try.func65, Try.ntmps65
    go_wp2_with (go_at_call 81; refine (HG _).out.mono ?_; rintro e w1 ⟨rfl, hb1⟩)
    go_ret
    rw [hw0] at hb0
    exact ⟨rfl, bl_call hb0 hb1⟩
theorem gateH_c (l : List T3) (k : Nat) (w : World) (hk : k < l.length) (hlen : l.length ≤ 1000) (ha : Acts l) :
    Calls Try.prog 65 #[momV l k] w fun e w' => e = .returned (.int .i64 (gateH l k)) ∧ Below w.heap.size w w' := by
  have h4 := ha.get hk
  have hr := heatO_range (ha.take (k + 1)) (l.getD k t0).2.1
  rw [List.length_take] at hr
  have hb := h4.h1
  have := gateHeat_c (l.getD k t0).1 (l.getD k t0).2.1 (l.getD k t0).2.2 (heatO (l.take (k + 1))) w h4.i0 h4.i3 (by omega) ⟨h4.h0, by omega⟩
  rw [gateH_after hk] at this
  exact this
theorem hotTo_gate {lim : Int} {l : List T3} (hlim : 0 ≤ lim) (k : Nat) : hotTo lim l (k + 1) = if lim < gateH l k then hotTo lim l k ++ [(k : Int)] else hotTo lim l k := by
  rw [hotTo]
  by_cases h : isHot lim l k = true
  · rw [if_pos h, if_pos ((gateH_hot hlim k).1 h)]
  · rw [if_neg h, if_neg (fun x => h ((gateH_hot hlim k).2 x))]

set_option maxRecDepth 100000 in
set_option maxHeartbeats 2000000 in
theorem hotOf_c (A : Option Addr) (l : List T3) (c : Nat) (lim : Int) (w : World) (hlen : l.length ≤ 1000) (ha : Acts l) (hlim : 0 ≤ lim) (hr : Rd w A (cellsT l)) :
    Calls Try.prog 62 #[.slice A l.length c, .int .i64 lim] w (OutL (hotL lim l) w) := by
  have HL := hotTo_len lim l
  have HM := Lib.hid (momentsOf_c A l c w hlen ha hr)
  go_enter Try.func62, Try.ntmps62
  go_wp2_with (go_at_call 54; refine HM.out.mono ?_; rintro e w1 ⟨g, rfl, hm1, hb1⟩)
  go_loopg [5, 11] l.length (fun gk v iv wr => ∃ k : Nat, Hid (k + gk = l.length) ∧ iv = .int .i64 (k : Int) ∧ wr.ownsRow w.heap.size 3 1 v (hotTo lim l k).length (ints (hotTo lim l k)) ∧ Below w.heap.size w wr ∧ MomK wr g l l.length)
  case atStart => exact ⟨0, by simp [Hid], rfl, World.ownsRow_nil _ _ _ _, hb1, hm1⟩
  case round =>
    obtain ⟨k, HK, rfl, hown, hb, hm⟩ := hrel
    rcases gk with _ | gi
    · obtain rfl : k = l.length := HK.out
      obtain ⟨A', c', rfl⟩ := own_form hown
      go_wp2_with (fail)
      go_ret
      exact ⟨A', c', rfl, hown, hb⟩
    · have hkl : k < l.length := by have := HK.out; omega
      have hkl' : (k : Int) < (l.length : Int) := by omega
      obtain ⟨c0, c1, c2, c3, c4, c5, c6⟩ := hm.read hkl
      have HG := fun w => Lib.hid (gateH_c l k w hkl hlen ha)
      have HMV : Hid (momV l k = .agg #[.int .i64 (l.getD k t0).1, .int .i64 (l.getD k t0).2.1, .int .i64 (l.getD k t0).2.2, .int .i64 (heatO (l.take (k + 1)) 0), .int .i64 (heatO (l.take (k + 1)) 1), .int .i64 (heatO (l.take (k + 1)) 2), .int .i64 (heatO (l.take (k + 1)) 3)]) := rfl
      rw [HMV.out] at HG
      have HN := Lib.hid (hotTo_gate (l := l) hlim k)
      have hfl := HL k
      generalize (l.getD k t0).1 = v0 at *
      generalize (l.getD k t0).2.1 = v1 at *
      generalize (l.getD k t0).2.2 = v2 at *
      generalize heatO (l.take (k + 1)) 0 = v3 at *
      generalize heatO (l.take (k + 1)) 1 = v4 at *
      generalize heatO (l.take (k + 1)) 2 = v5 at *
      generalize heatO (l.take (k + 1)) 3 = v6 at *
      generalize gateH l k = q at HG HN
      generalize hotTo lim l k = L at hown HN hfl
      clear HMV
      have hba := bl_alloc hb (.cells #[.int .i64 v0, .int .i64 v1, .int .i64 v2, .int .i64 v3, .int .i64 v4, .int .i64 v5, .int .i64 v6] 72)
      have hal := bl_alloc (Below.refl wr.heap.size wr) (.cells #[.int .i64 v0, .int .i64 v1, .int .i64 v2, .int .i64 v3, .int .i64 v4, .int .i64 v5, .int .i64 v6] 72)
      have hoa := own_call hown hal
      have hma := hm.call hal
      by_cases hq : lim < q
      · have HX : Hid (hotTo lim l (k + 1) = L ++ [(k : Int)]) := by show _ = _; rw [HN.out, if_pos hq]
        go_wp2_with (first | (go_at_call 65; refine (HG _).out.mono ?_; rintro e w2 ⟨rfl, hb2⟩; obtain ⟨A2, c2', W2, E1, ho2, hb3, hkp⟩ := append_int w.heap.size w2 _ L (k : Int) (own_call hoa hb2) (by omega) (bl_call hba hb2).size; have HE1 := Lib.hid E1; clear E1) | (at_builtin; refine wpList_append_eq rfl _ _ 34 rfl _ _ _ W2 rfl rfl HE1.out ?_))
        have hb4 := (bl_call hba hb2).trans hb3
        have hm4 : MomK W2 g l l.length := by
          obtain ⟨cs, m1, m2, m3⟩ := hma.call hb2
          exact ⟨cs, hkp _ _ _ (by decide) m1, m2, m3⟩
        go_wp2_with (fail)
        go_roundg gi
        case rel => exact ⟨k + 1, by have := HK.out; show _ = _; omega, by go_num, by rw [HX.out]; exact ho2, hb4, hm4⟩
        case measure => omega
      · have HX : Hid (hotTo lim l (k + 1) = L) := by show _ = _; rw [HN.out, if_neg hq]
        go_wp2_with (go_at_call 65; refine (HG _).out.mono ?_; rintro e w2 ⟨rfl, hb2⟩)
        go_roundg gi
        case rel => exact ⟨k + 1, by have := HK.out; show _ = _; omega, by go_num, by rw [HX.out]; exact own_call hoa hb2, bl_call hba hb2, hma.call hb2⟩
        case measure => omega
/-- The least limit of the first k acts. -/
def leastTo (l : List T3) : Nat → Int
  | 0 => 0
  | k + 1 => max (leastTo l k) (gateH l k)
theorem leastTo_range {l : List T3} (ha : Acts l) (h : l.length ≤ 1000) : ∀ k, 0 ≤ leastTo l k ∧ leastTo l k ≤ 100000
  | 0 => by simp [leastTo]
  | k + 1 => by
    have := leastTo_range ha h k
    have := gateH_range ha h k
    rw [leastTo]; omega
theorem least_cold {lim : Int} {l : List T3} (hlim : 0 ≤ lim) : ∀ k, hotTo lim l k = [] ↔ leastTo l k ≤ lim
  | 0 => by simp [hotTo, leastTo, hlim]
  | k + 1 => by
    have ih := least_cold (l := l) hlim k
    rw [hotTo_gate hlim, leastTo]
    by_cases h : lim < gateH l k
    · rw [if_pos h]
      exact ⟨fun x => by simp at x, fun x => by omega⟩
    · rw [if_neg h, ih]; omega
def leastG (n : Int) (l : List T3) : Int := if validE n l = 0 then leastTo l l.length else 0
set_option maxRecDepth 100000 in
set_option maxHeartbeats 2000000 in
theorem Least_c (n : Int) (A : Option Addr) (l : List T3) (c : Nat) (w : World) (hlen : l.length ≤ 1000) (hr : Rd w A (cellsT l)) :
    Calls Try.prog 32 #[.int .i64 n, .slice A l.length c] w fun e w' => e = .returned (.tuple #[.int .i64 (leastG n l), .int .i64 (validE n l)]) ∧ Below w.heap.size w w' := by
  have HV := Lib.hid (validate_c n A l c w hlen hr)
  by_cases hv : validE n l = 0
  · have ha := validE_acts hv
    have HB : leastG n l = leastTo l l.length := by rw [leastG, if_pos hv]
    rw [hv] at HV
    rw [hv, HB]
    clear HB hv
    have HM := fun w1 h => Lib.hid (momentsOf_c A l c w1 hlen ha h)
    go_enter Try.func32, Try.ntmps32
    go_wp2_with (first | (go_at_call 24; refine HV.out.mono ?_; rintro e w1 ⟨rfl, hb1⟩) | (go_at_call 54; refine (HM _ (hr.later hb1)).out.mono ?_; rintro e w2 ⟨g, rfl, hm2, hb2⟩))
    go_loopg [7, 19] l.length (fun gk sv iv wr => ∃ k : Nat, Hid (k + gk = l.length) ∧ iv = .int .i64 (k : Int) ∧ sv = .int .i64 (leastTo l k) ∧ Below w.heap.size w wr ∧ MomK wr g l l.length)
    case atStart => exact ⟨0, by simp [Hid], rfl, rfl, bl_call hb1 hb2, hm2⟩
    case round =>
      obtain ⟨k, HK, rfl, rfl, hb, hm⟩ := hrel
      rcases gk with _ | gi
      · obtain rfl : k = l.length := HK.out
        go_wp2_with (fail)
        go_ret2
        exact ⟨rfl, hb⟩
      · have hkl : k < l.length := by have := HK.out; omega
        have hkl' : (k : Int) < (l.length : Int) := by omega
        obtain ⟨c0, c1, c2, c3, c4, c5, c6⟩ := hm.read hkl
        have HG := fun w => Lib.hid (gateH_c l k w hkl hlen ha)
        have HMV : Hid (momV l k = .agg #[.int .i64 (l.getD k t0).1, .int .i64 (l.getD k t0).2.1, .int .i64 (l.getD k t0).2.2, .int .i64 (heatO (l.take (k + 1)) 0), .int .i64 (heatO (l.take (k + 1)) 1), .int .i64 (heatO (l.take (k + 1)) 2), .int .i64 (heatO (l.take (k + 1)) 3)]) := rfl
        rw [HMV.out] at HG
        have HN : Hid (leastTo l (k + 1) = max (leastTo l k) (gateH l k)) := rfl
        generalize (l.getD k t0).1 = v0 at *
        generalize (l.getD k t0).2.1 = v1 at *
        generalize (l.getD k t0).2.2 = v2 at *
        generalize heatO (l.take (k + 1)) 0 = v3 at *
        generalize heatO (l.take (k + 1)) 1 = v4 at *
        generalize heatO (l.take (k + 1)) 2 = v5 at *
        generalize heatO (l.take (k + 1)) 3 = v6 at *
        generalize gateH l k = q at HG HN
        generalize leastTo l k = s at HN
        clear HMV
        have hal := bl_alloc (Below.refl wr.heap.size wr) (.cells #[.int .i64 v0, .int .i64 v1, .int .i64 v2, .int .i64 v3, .int .i64 v4, .int .i64 v5, .int .i64 v6] 72)
        have hba := bl_call hb hal
        have hma := hm.call hal
        go_wp2_with (go_at_call 65; refine (HG _).out.mono ?_; rintro e w3 ⟨rfl, hb3⟩)
        all_goals
          go_roundg gi
          case rel => exact ⟨k + 1, by have := HK.out; show _ = _; omega, by go_num, by rw [HN.out]; congr 1; omega, bl_call hba hb3, hma.call hb3⟩
          case measure => omega
  · have HB : leastG n l = 0 := by rw [leastG, if_neg hv]
    have hv' : (validE n l != 0) = true := by simpa using hv
    rw [HB]
    clear HB
    generalize validE n l = ev at *
    go_enter Try.func32, Try.ntmps32
    go_wp2_with (go_at_call 24; refine HV.out.mono ?_; rintro e w1 ⟨rfl, hb1⟩)
    go_ret2
    exact ⟨rfl, hb1⟩
def hotsG (n : Int) (l : List T3) (lim : Int) : List Int := if limE n l lim = 0 then hotL lim l else []
def fitsG (n : Int) (l : List T3) (lim : Int) : Bool := decide (limE n l lim = 0) && decide (hotL lim l = [])
set_option maxRecDepth 100000 in
theorem Hot_c (n : Int) (A : Option Addr) (l : List T3) (c : Nat) (lim : Int) (w : World) (hlen : l.length ≤ 1000) (hr : Rd w A (cellsT l)) :
    Calls Try.prog 27 #[.int .i64 n, .slice A l.length c, .int .i64 lim] w (OutI (hotsG n l lim) (limE n l lim) w) := by
  have HV := Lib.hid (validateBy_c n A l c lim w hlen hr)
  by_cases hv : limE n l lim = 0
  · obtain ⟨_, ha, hl0, _⟩ := limE_len hv
    have HS := fun (w1 : World) (h : Rd w1 A (cellsT l)) => Lib.hid (hotOf_c A l c lim w1 hlen ha hl0 h)
    have HB : hotsG n l lim = hotL lim l := by rw [hotsG, if_pos hv]
    rw [hv] at HV
    rw [hv, HB]
    clear HB hv ha hl0
    generalize hotL lim l = F at *
    go_enter Try.func27, Try.ntmps27
    go_wp2_with (go_at_call 61; refine HV.out.mono ?_; rintro e w1 ⟨rfl, hb1⟩)
    refine (HS _ (hr.later hb1)).out.mono ?_
    rintro e w2 ⟨A2, c2, rfl, ho2, hb2⟩
    go_wp2_with (fail)
    go_ret2
    exact ⟨A2, c2, rfl, own_base ho2 hb1.size, bl_call hb1 hb2⟩
  · have HB : hotsG n l lim = [] := by rw [hotsG, if_neg hv]
    have hv' : (limE n l lim != 0) = true := by simpa using hv
    rw [HB]
    clear HB
    generalize limE n l lim = ev at *
    go_enter Try.func27, Try.ntmps27
    go_wp2_with (go_at_call 61; refine HV.out.mono ?_; rintro e w1 ⟨rfl, hb1⟩)
    go_ret2
    exact ⟨none, 0, rfl, World.ownsRow_nil _ _ _ _, hb1⟩
set_option maxRecDepth 100000 in
theorem Fits_c (n : Int) (A : Option Addr) (l : List T3) (c : Nat) (lim : Int) (w : World) (hlen : l.length ≤ 1000) (hr : Rd w A (cellsT l)) :
    Calls Try.prog 29 #[.int .i64 n, .slice A l.length c, .int .i64 lim] w fun e w' => e = .returned (.tuple #[.bool (fitsG n l lim), .int .i64 (limE n l lim)]) ∧ Below w.heap.size w w' := by
  have HV := Lib.hid (validateBy_c n A l c lim w hlen hr)
  by_cases hv : limE n l lim = 0
  · obtain ⟨_, ha, hl0, _⟩ := limE_len hv
    have HS := fun (w1 : World) (h : Rd w1 A (cellsT l)) => Lib.hid (hotOf_c A l c lim w1 hlen ha hl0 h)
    have HB : fitsG n l lim = decide (hotL lim l = []) := by rw [fitsG, decide_eq_true hv, Bool.true_and]
    rw [hv] at HV
    rw [hv, HB]
    clear HB hv ha hl0
    generalize hotL lim l = F at *
    have HF : Hid (decide (F = []) = ((F.length : Int) == 0)) := by
      show _ = _
      cases F with
      | nil => rfl
      | cons a t => simp; omega
    rw [HF.out]
    clear HF
    go_enter Try.func29, Try.ntmps29
    go_wp2_with (go_at_call 61; refine HV.out.mono ?_; rintro e w1 ⟨rfl, hb1⟩)
    refine (HS _ (hr.later hb1)).out.mono ?_
    rintro e w2 ⟨A2, c2, rfl, ho2, hb2⟩
    go_wp2_with (fail)
    go_ret2
    exact ⟨rfl, bl_call hb1 hb2⟩
  · have HB : fitsG n l lim = false := by rw [fitsG, decide_eq_false hv, Bool.false_and]
    have hv' : (limE n l lim != 0) = true := by simpa using hv
    rw [HB]
    clear HB
    generalize limE n l lim = ev at *
    go_enter Try.func29, Try.ntmps29
    go_wp2_with (go_at_call 61; refine HV.out.mono ?_; rintro e w1 ⟨rfl, hb1⟩)
    go_ret2
    exact ⟨rfl, hb1⟩
end Go.Proofs.Ytlhnbknilcmleaa
