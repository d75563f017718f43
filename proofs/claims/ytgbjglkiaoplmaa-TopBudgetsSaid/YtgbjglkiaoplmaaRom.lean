/- By how much an item can be used more: package budget's Room. -/
import Derived.Test.YtgbjglkiaoplmaaDel
import Derived.Test.YtgbjglkiaoplmaaRdl
import Derived.Test.YtgbjglkiaoplmaaCls
import Derived.Test.YtgbjglkiaoplmaaRtt
namespace Go.Proofs.Ytgbjglkiaoplmaa
open Go.RowKit

def grw (l : List It) (i : Nat) (n : Int) : List It := l.set i ⟨(l.getD i it0).u + n, (l.getD i it0).n, (l.getD i it0).d⟩
theorem grw_len (l : List It) (i : Nat) (n : Int) : (grw l i n).length = l.length := by simp [grw]
theorem grw_get {l : List It} {i : Nat} (hi : i < l.length) (n : Int) : ∀ j, (grw l i n).getD j it0 = if j = i then ⟨(l.getD i it0).u + n, (l.getD i it0).n, (l.getD i it0).d⟩ else l.getD j it0 := fun j => by
  unfold grw
  by_cases h : j = i
  · subst h; rw [if_pos rfl]; simp [hi]
  · rw [if_neg h]
    have hne : i ≠ j := fun e => h e.symm
    simp [List.getD_eq_getElem?_getD, List.getElem?_set_ne hne]
theorem grw_parts {l : List It} {i : Nat} (hi : i < l.length) (n : Int) : ∀ k, partsTo (grw l i n) k = partsTo l k + if i < k then n * part (l.getD i it0).n (l.getD i it0).d else 0
  | 0 => by simp [partsTo]
  | k + 1 => by
    rw [partsTo, partsTo, grw_parts hi n k, grw_get hi n k]
    by_cases h : k = i
    · subst h
      rw [if_pos rfl, if_neg (by omega), if_pos (by omega)]
      show partsTo l k + 0 + ((l.getD k it0).u + n) * part (l.getD k it0).n (l.getD k it0).d = partsTo l k + (l.getD k it0).u * part (l.getD k it0).n (l.getD k it0).d + n * part (l.getD k it0).n (l.getD k it0).d
      rw [Int.add_mul]; omega
    · rw [if_neg h]
      by_cases h2 : i < k
      · rw [if_pos h2, if_pos (by omega)]; omega
      · rw [if_neg h2, if_neg (by omega)]; omega
theorem grw_ok {l : List It} {i : Nat} (h : OkIs 8 l) (hi : i < l.length) {n : Int} (h0 : 0 ≤ n) (h1 : n ≤ 1500) : OkIs 2000 (grw l i n) := fun k hk => by
  rw [grw_len] at hk
  rw [grw_get hi]
  have hx := h k hk
  split
  · rename_i e; subst e
    exact ⟨by have := hx.u0; show 0 ≤ _ + n; omega, by have := hx.um; show _ + n ≤ _; omega, hx.r⟩
  · exact ⟨hx.u0, by have := hx.um; omega, hx.r⟩
def gwB (l : List It) (i : Nat) (m e : Int) (n : Nat) : Bool := closeB (grw l i (n : Int)) m e
theorem gw_mono {l : List It} {i : Nat} {m e : Int} (h : OkIs 8 l) (hi : i < l.length) (he : 0 < e) {a b : Nat} (hab : a ≤ b) (hb : gwB l i m e b = true) : gwB l i m e a = true := by
  unfold gwB closeB at hb ⊢
  rw [decide_eq_true_eq] at hb ⊢
  unfold partsL at hb ⊢
  rw [grw_len, grw_parts hi, if_pos hi] at hb ⊢
  have hp := (part_in (h i hi).r).1
  have h1 := Int.mul_le_mul_of_nonneg_right (show (a : Int) ≤ (b : Int) by omega) hp
  have h2 := Int.mul_le_mul_of_nonneg_right (show partsTo l l.length + (a : Int) * part (l.getD i it0).n (l.getD i it0).d ≤ partsTo l l.length + (b : Int) * part (l.getD i it0).n (l.getD i it0).d by omega) (Int.le_of_lt he)
  omega
/-- The room. -/
structure IsRoom (l : List It) (i : Nat) (m e : Int) (r : Nat) : Prop where
  le : r ≤ 1000
  pre : ∀ j, j < r → gwB l i m e (j + 1) = true
  at_ : r < 1000 → gwB l i m e (r + 1) = false
theorem IsRoom.one {l : List It} {i : Nat} {m e : Int} {r s : Nat} (h : IsRoom l i m e r) (k : IsRoom l i m e s) : r = s := by
  rcases Nat.lt_trichotomy r s with h1 | h1 | h1
  · have a := h.at_ (by have := k.le; omega)
    have b := k.pre r h1
    rw [a] at b; cases b
  · exact h1
  · have a := k.at_ (by have := h.le; omega)
    have b := h.pre s h1
    rw [a] at b; cases b
set_option maxRecDepth 100000 in
set_option maxHeartbeats 2000000 in
theorem grown_c (A : Option Addr) (l : List It) (cap i : Nat) (n : Int) (w : World) (hok : OkIs 8 l) (hlen : l.length ≤ 1000) (hi : i < l.length) (hn0 : 0 ≤ n) (hn1 : n ≤ 1500) (hr : Rd w A (cellsI l)) :
    Calls Try.prog 94 #[.slice A l.length cap, .int .i64 i, .int .i64 n] w fun e w' => ∃ A' c', e = .returned (.slice A' l.length c') ∧ Rd w' A' (cellsI (grw l i n)) ∧ Below w.heap.size w w' := by
  have HC := Lib.hid (cloneI_c A l cap w hlen hr)
  have hu := (hok i hi).u0
  have hu8 := (hok i hi).um
  have hi' : (i : Int) < (l.length : Int) := by omega
  have HG : Hid (l.set i ⟨(l.getD i it0).u + n, (l.getD i it0).n, (l.getD i it0).d⟩ = grw l i n) := rfl
  have hw : wrap64 ((l.getD i it0).u + n) = (l.getD i it0).u + n := IntWalk.wrap64_in _ ⟨by omega, by omega⟩
  clear hu hu8
  go_enter Try.func94, Try.ntmps94
  go_wp2_with (fail)
  refine HC.out.mono ?_
  rintro e w1 ⟨A', c', rfl, hown, hb1⟩
  obtain ⟨g, rfl, hbg, hgl, q1, q2, hput⟩ := own_putU hown rfl hi
  have hput2 := hput ((l.getD i it0).u + n)
  rw [HG.out] at hput2
  have HP := Lib.hid (own_rd hput2).1
  have hbs := Lib.hid (bl_set hb1 (g := g) (i := i * 3) hbg (.int .i64 ((l.getD i it0).u + n)))
  clear hput hput2 hown HG
  generalize (l.getD i it0).u = u at *
  go_wp2_with (fail)
  go_ret
  exact ⟨_, _, rfl, HP.out, hbs.out⟩
set_option maxRecDepth 100000 in
set_option maxHeartbeats 2000000 in
theorem room1_c (P Q R : Nat) (A : Option Addr) (l : List It) (cap i : Nat) (m e : Int) (n : Nat) (w : World) (hok : OkIs 8 l) (hl6 : l.length ≤ 6) (hi : i < l.length) (hn1 : n < 1000) (hL : limB m e = true)
    (hP : Bx w P 22 #[.slice A l.length cap]) (hQ : Bx w Q 3 #[.int .i64 i]) (hR : Bx w R 30 #[.int .i64 m, .int .i64 e]) (hr : Rd w A (cellsI l)) :
    Calls Try.prog 93 #[.int .i64 n, .pointer (some ⟨P, 0, none⟩), .pointer (some ⟨Q, 0, none⟩), .pointer (some ⟨R, 0, none⟩)] w fun f w' => f = .returned (.bool (!gwB l i m e (n + 1))) ∧ Below w.heap.size w w' := by
  have HG := fun W hr => Lib.hid (grown_c A l cap i ((n : Int) + 1) W hok (by omega) hi (by omega) (by omega) hr)
  have hgo := grw_ok hok hi (n := (n : Int) + 1) (by omega) (by omega)
  have HC := fun D c' W hd => Lib.hid (closes_c D (grw l i ((n : Int) + 1)) c' 2000 m e W hgo (by rw [grw_len]; exact hl6) (by decide) hL hd)
  rw [grw_len] at HC
  have hz : closeB (grw l i ((n : Int) + 1)) m e = gwB l i m e (n + 1) := by unfold gwB; rw [show ((n + 1 : Nat) : Int) = (n : Int) + 1 by omega]
  rw [hz] at HC
  have hw : IntKind.i64.wrap ((n : Int) + 1) = (n : Int) + 1 := IntWalk.i64_in _ ⟨by omega, by omega⟩
  have hw2 : wrap64 ((n : Int) + 1) = (n : Int) + 1 := IntWalk.wrap64_in _ ⟨by omega, by omega⟩
  clear hz hgo
  generalize gwB l i m e (n + 1) = z at *
  generalize grw l i ((n : Int) + 1) = gl at *
  have hdr : Below w.heap.size w w.drew := (Below.refl _ _).drew
  obtain ⟨p0, _⟩ := hP.one
  obtain ⟨p1, _⟩ := hP.drew.one
  obtain ⟨q0, _⟩ := hQ.one
  obtain ⟨q1, _⟩ := hQ.drew.one
  obtain ⟨r0, r1, _, _⟩ := hR.two
  obtain ⟨r2, r3, _, _⟩ := hR.drew.two
  have HGd := HG w.drew (hr.later hdr)
  have HRW := Lib.hid (fun W (hW : Below w.heap.size w W) => (hR.call hW).two)
  go_enter Try.func93, Try.ntmps93
  go_wp2_with (fail)
  go_region_law (first
    | (go_simp; (try rw [hw]); with_reducible refine HGd.out.mono ?_; rintro f w4 ⟨A4, c4, rfl, hr4, hb4⟩; have hb04 := bl_call hdr hb4; obtain ⟨s0, s1, _, _⟩ := HRW.out w4 hb04; have HC4 := HC A4 c4 w4 hr4; try go_simp)
    | (go_simp; with_reducible refine HC4.out.mono ?_; rintro f w5 ⟨rfl, hb5⟩; have hb05 := bl_call hb04 hb5; try go_simp))
  all_goals
    go_wp2_with (fail)
    go_ret
    exact ⟨rfl, hb05⟩
set_option maxRecDepth 100000 in
set_option maxHeartbeats 2000000 in
theorem search_c (P Q R : Nat) (A : Option Addr) (l : List It) (cap i : Nat) (m e : Int) (w : World) (hok : OkIs 8 l) (hl6 : l.length ≤ 6) (hi : i < l.length) (hL : limB m e = true)
    (hP : Bx w P 22 #[.slice A l.length cap]) (hQ : Bx w Q 3 #[.int .i64 i]) (hR : Bx w R 30 #[.int .i64 m, .int .i64 e]) (hr : Rd w A (cellsI l)) :
    Calls Try.prog 92 #[.int .i64 1000, .func (.func 93) #[] #[.pointer (some ⟨P, 0, none⟩), .pointer (some ⟨Q, 0, none⟩), .pointer (some ⟨R, 0, none⟩)]] w fun f w' => (∃ r : Nat, f = .returned (.int .i64 r) ∧ IsRoom l i m e r) ∧ Below w.heap.size w w' := by
  have HF := Lib.hid (fun n W (hn : n < 1000) hP hQ hR hr => room1_c P Q R A l cap i m e n W hok hl6 hi hn hL hP hQ hR hr)
  have HMo := Lib.hid (fun a b hab hb => @gw_mono l i m e hok hi (by have := limB_iff.1 hL; omega) a b hab hb)
  clear hok hl6 hi hL
  go_enter Try.func92, Try.ntmps92
  go_wp2_with (fail)
  go_loopw [5, 6] (fun iv jv wr => ∃ a b : Nat, iv = .int .i64 (a : Int) ∧ jv = .int .i64 (b : Int) ∧ a ≤ b ∧ b ≤ 1000 ∧ Hid (∀ x, x < a → gwB l i m e (x + 1) = true) ∧ Hid (b < 1000 → gwB l i m e (b + 1) = false) ∧ Below w.heap.size w wr) (fun iv jv _ => (intOf jv - intOf iv).toNat)
  case atStart => exact ⟨0, 1000, rfl, rfl, by omega, by omega, fun x h => absurd h (by omega), fun h => absurd h (by omega), Below.refl _ _⟩
  case round =>
    obtain ⟨a, b, rfl, rfl, hab, hb1, HA, HB, hb⟩ := hrel
    by_cases hlt : a < b
    · have hlt' : (a : Int) < (b : Int) := by omega
      go_wp2_with (fail)
      obtain ⟨h, hh⟩ : ∃ h : Nat, ((a : Int) + (b : Int)) / 2 = (h : Int) := ⟨(((a : Int) + (b : Int)) / 2).toNat, by omega⟩
      have ha : a ≤ h := by omega
      have hbh : h < b := by omega
      rw [hh]
      clear hh hlt'
      have HFh := Lib.hid (HF.out h wr (by omega) (hP.call hb) (hQ.call hb) (hR.call hb) (hr.later hb))
      refine HFh.out.mono ?_
      rintro f w2 ⟨rfl, hb2⟩
      have hb02 := bl_call hb hb2
      cases hz : gwB l i m e (h + 1) with
      | true =>
        have HA2 : Hid (∀ x, x < h + 1 → gwB l i m e (x + 1) = true) := fun x hx => HMo.out (x + 1) (h + 1) (by omega) hz
        clear hz
        go_wp2_with (fail)
        go_roundw
        case rel => exact ⟨h + 1, b, by go_num, rfl, by omega, by omega, HA2.out, HB.out, hb02⟩
        case measure => simp [intOf]; omega
      | false =>
        have HB2 : Hid (h < 1000 → gwB l i m e (h + 1) = false) := fun _ => hz
        clear hz
        go_wp2_with (fail)
        go_roundw
        case rel => exact ⟨a, h, rfl, rfl, by omega, by omega, HA.out, HB2.out, hb02⟩
        case measure => simp [intOf]; omega
    · obtain rfl : a = b := by omega
      go_wp2_with (fail)
      go_ret
      exact ⟨⟨a, rfl, hb1, HA.out, HB.out⟩, hb⟩
def rmE (l : List It) (m e k : Int) : Int := if witE l k = 0 then (if limB m e = true then (if closeB l m e = true then 0 else 8) else 1) else witE l k
/-- The room and an error. -/
def OutRm (l : List It) (m e k : Int) (w : World) (f : Ending) (w' : World) : Prop :=
  (∃ r : Int, f = .returned (.tuple #[.int .i64 r, .int .i64 (rmE l m e k)]) ∧ (rmE l m e k ≠ 0 → r = 0) ∧ (rmE l m e k = 0 → ∃ n i : Nat, k = (i : Int) ∧ r = (n : Int) ∧ IsRoom l i m e n)) ∧ Below w.heap.size w w'
set_option maxRecDepth 100000 in
set_option maxHeartbeats 2000000 in
theorem Room_c (A : Option Addr) (l : List It) (cap : Nat) (m e k : Int) (w : World) (hlen : l.length ≤ 1000) (hr : Rd w A (cellsI l)) :
    Calls Try.prog 49 #[.slice A l.length cap, .agg #[.int .i64 m, .int .i64 e], .int .i64 k] w (OutRm l m e k w) := by
  obtain ⟨W1, hW1⟩ : ∃ W1, W1 = w.alloc (.cells #[.slice A l.length cap] 22) := ⟨_, rfl⟩
  obtain ⟨W2, hW2⟩ : ∃ W2, W2 = W1.alloc (.cells #[.int .i64 m, .int .i64 e] 30) := ⟨_, rfl⟩
  obtain ⟨W3, hW3⟩ : ∃ W3, W3 = W2.alloc (.cells #[.int .i64 k] 3) := ⟨_, rfl⟩
  have hP0 : Bx W1 w.heap.size 22 #[.slice A l.length cap] := by rw [hW1]; exact Bx.new w _ _
  have hR0 : Bx W2 W1.heap.size 30 #[.int .i64 m, .int .i64 e] := by rw [hW2]; exact Bx.new W1 _ _
  have hQ0 : Bx W3 W2.heap.size 3 #[.int .i64 k] := by rw [hW3]; exact Bx.new W2 _ _
  have hb1 : Below w.heap.size w W1 := by rw [hW1]; exact bl_alloc (Below.refl _ _) _
  have hb12 : Below W1.heap.size W1 W2 := by rw [hW2]; exact bl_alloc (Below.refl _ _) _
  have hb23 : Below W2.heap.size W2 W3 := by rw [hW3]; exact bl_alloc (Below.refl _ _) _
  have hb3 := bl_call (bl_call hb1 hb12) hb23
  have hs1 : W1.heap.size = w.heap.size + 1 := by rw [hW1, World.size_alloc]
  have hs2 : W2.heap.size = w.heap.size + 2 := by rw [hW2, World.size_alloc, hs1]
  have hP := (hP0.call hb12).call hb23
  have hR := hR0.call hb23
  rw [hs1] at hR
  rw [hs2] at hQ0
  have HV := fun W hr => Lib.hid (validateItem_c A l cap k W hlen hr)
  have HLm := fun W => Lib.hid (isLimit_c m e W)
  subst hW1
  subst hW2
  clear hP0 hR0 hb1 hb12 hb23 hs1 hs2
  subst hW3
  obtain ⟨p0, _⟩ := hP.one
  obtain ⟨q0, _⟩ := hQ0.one
  unfold vitE at HV
  by_cases hw : witE l k = 0
  rotate_left
  · have hE : rmE l m e k = witE l k := by unfold rmE; rw [if_neg hw]
    unfold OutRm
    rw [hE]
    generalize witE l k = z at *
    go_enter Try.func49, Try.ntmps49
    go_wp2_with (fail)
    refine (HV _ (hr.later hb3)).out.mono ?_
    rintro f w1 ⟨rfl, hb1⟩
    go_wp2_with (fail)
    go_ret2
    exact ⟨⟨0, rfl, fun _ => rfl, fun h => absurd h hw⟩, bl_call hb3 hb1⟩
  · rw [hw] at HV
    by_cases hL : limB m e = true
    rotate_left
    · have hL' : limB m e = false := by rw [Bool.not_eq_true] at hL; exact hL
      have hE : rmE l m e k = 1 := by unfold rmE; rw [if_pos hw, if_neg hL]
      rw [hL'] at HLm
      unfold OutRm
      rw [hE]
      clear hE hL hL' hw
      go_enter Try.func49, Try.ntmps49
      go_wp2_with (fail)
      refine (HV _ (hr.later hb3)).out.mono ?_
      rintro f w1 ⟨rfl, hb1⟩
      obtain ⟨r0, r1, _, _⟩ := (hR.call hb1).two
      go_wp2_with (fail)
      refine (HLm _).out.mono ?_
      rintro f w2 ⟨rfl, hb2⟩
      go_wp2_with (fail)
      go_ret2
      exact ⟨⟨0, rfl, fun _ => rfl, fun h => absurd h (by decide)⟩, bl_call (bl_call hb3 hb1) hb2⟩
    · rcases witE_cases l k with ⟨_, h, _⟩ | ⟨_, _, h, _⟩ | ⟨hv, i, rfl, hi, _, _⟩
      · exact absurd (h.symm.trans hw) (by assumption)
      · rw [h] at hw; cases hw
      have hHC := fun W hr => Lib.hid (closes_c A l cap 8 m e W (val_ok hv) (valE_ok hv).1 (by decide) hL hr)
      have HS := fun W hP hQ hR hr => Lib.hid (search_c w.heap.size (w.heap.size + 2) (w.heap.size + 1) A l cap i m e W (val_ok hv) (valE_ok hv).1 hi hL hP hQ hR hr)
      have hHL := HLm
      rw [hL] at hHL
      unfold OutRm
      have hE : rmE l m e i = if closeB l m e = true then 0 else 8 := by unfold rmE; rw [if_pos hw, if_pos hL]
      rw [hE]
      clear hE hL hw hv HLm
      generalize closeB l m e = z at *
      go_enter Try.func49, Try.ntmps49
      go_wp2_with (fail)
      refine (HV _ (hr.later hb3)).out.mono ?_
      rintro f w1 ⟨rfl, hb1⟩
      obtain ⟨r0, r1, _, _⟩ := (hR.call hb1).two
      have hb01 := bl_call hb3 hb1
      go_wp2_with (fail)
      refine (hHL _).out.mono ?_
      rintro f w2 ⟨rfl, hb2⟩
      obtain ⟨s0, s1, _, _⟩ := ((hR.call hb1).call hb2).two
      obtain ⟨u0, _⟩ := ((hP.call hb1).call hb2).one
      have hb02 := bl_call hb01 hb2
      clear r0 r1
      go_wp2_with (fail)
      refine (hHC _ (hr.later hb02)).out.mono ?_
      rintro f w3 ⟨rfl, hb3'⟩
      have hb03 := bl_call hb02 hb3'
      cases z
      · go_wp2_with (fail)
        go_ret2
        exact ⟨rfl, hb03⟩
      · have HS3 := HS w3 (((hP.call hb1).call hb2).call hb3') (((hQ0.call hb1).call hb2).call hb3') (((hR.call hb1).call hb2).call hb3') (hr.later hb03)
        clear HS
        go_wp2_with (fail)
        refine HS3.out.mono ?_
        rintro f w4 ⟨⟨r, rfl, hro⟩, hb4⟩
        go_wp2_with (fail)
        go_ret2
        exact ⟨⟨r, rfl, r, i, rfl, rfl, hro⟩, bl_call hb03 hb4⟩
end Go.Proofs.Ytgbjglkiaoplmaa
