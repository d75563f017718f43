/- The cheapest choice: the document's cheapest, Cheapest and Choice. -/
import Derived.Test.YtgbjglkiaoplmaaRcs
import Derived.Test.YtgbjglkiaoplmaaWtc
import Derived.Test.YtgbjglkiaoplmaaChq
namespace Go.Proofs.Ytgbjglkiaoplmaa
open Go.RowKit

def rC (s : Option (List Int × Int)) : List Int := match s with | some t => t.1 | none => []
def rK (s : Option (List Int × Int)) : Int := match s with | some t => t.2 | none => 0
theorem chp_r {l : List It} {fs : List Fx} (hn : fs.length ≤ 8) (m e : Int) : chpC l fs m e = rC (cheapR l fs m e) ∧ chpK l fs m e = rK (cheapR l fs m e) ∧ chpB l fs m e = (cheapR l fs m e).isSome := by
  rw [← cheap_same hn]
  unfold chpC chpK chpB
  cases cheapO l fs m e <;> exact ⟨rfl, rfl, rfl⟩
theorem Tab.cons0 {w : World} {base : Nat} {hs : List Value} {ls : List (List Int)} (h : Tab w base hs ls) : Tab w base (.slice none 0 0 :: hs) ([] :: ls) := by
  refine ⟨by simp [h.1], fun k hk => ?_⟩
  rcases k with _ | k
  · exact ⟨none, 0, rfl, World.ownsRow_nil _ _ _ _⟩
  · obtain ⟨A, c, h1, h2⟩ := h.2 k (by simpa using hk)
    exact ⟨A, c, h1, h2⟩
theorem all_take {fs : List Fx} {k : Nat} (hk : k < (allF fs).length) : (allF fs).take (k + 1) = (allF fs).take k ++ [(allF fs).getD k []] := by
  rw [List.take_succ_eq_append_getElem hk]
  congr 1
  simp [hk]
theorem all_cho {fs : List Fx} {k : Nat} (hk : k < (allF fs).length) : Cho fs ((allF fs).getD k []) := by
  refine all_mem.1 ?_
  have e : (allF fs).getD k [] = (allF fs)[k] := by simp [hk]
  rw [e]; exact List.getElem_mem hk
theorem all_len (fs : List Fx) (hn : fs.length ≤ 8) : (allF fs).length ≤ 256 := by
  have h := go_len fs fs.length []
  have h3 : 2 ^ fs.length ≤ 256 := Nat.le_trans (Nat.pow_le_pow_right (by decide) hn) (by decide)
  unfold allF
  rw [List.length_cons]; omega
/-- The choice that is found, its cost, and whether there is one. -/
def OutR3 (C : List Int) (k : Int) (z : Bool) (w : World) (e : Ending) (w' : World) : Prop :=
  ∃ A c, e = .returned (.tuple #[.slice A C.length c, .int .i64 k, .bool z]) ∧ Rd w' A (ints C) ∧ Below w.heap.size w w'
set_option maxRecDepth 100000 in
set_option maxHeartbeats 4000000 in
theorem rcheapest_c (A : Option Addr) (l : List It) (cap : Nat) (B : Option Addr) (fs : List Fx) (cap2 : Nat) (m e : Int) (w : World) (hv : vfE l fs = 0) (hL : limB m e = true) (hr : Rd w A (cellsI l)) (hf : Rd w B (cellsF fs)) :
    Calls Try.prog 85 #[.slice A l.length cap, .slice B fs.length cap2, .agg #[.int .i64 m, .int .i64 e]] w (OutR3 (chpC l fs m e) (chpK l fs m e) (chpB l fs m e) w) := by
  have hn8 := (vfE_ok hv).2.1
  obtain ⟨e1, e2, e3⟩ := chp_r (l := l) hn8 m e
  rw [e1, e2, e3]
  clear e1 e2 e3
  have HR : Hid (cheapR l fs m e = cheapTo l fs m e (allF fs)) := rfl
  have hal := all_len fs hn8
  have HTS := Lib.hid (fun k (hk : k < (allF fs).length) => show cheapTo l fs m e ((allF fs).take (k + 1)) = cheapS l fs m e (cheapTo l fs m e ((allF fs).take k)) ((allF fs).getD k []) by rw [all_take hk, cheapTo_snoc])
  have HS0 : Hid (cheapTo l fs m e ((allF fs).take 0) = none) := rfl
  have HCS : Hid (∀ s c, cheapS l fs m e s c = if closeB (withL l fs c).1 m e = true ∧ (s = none ∨ ∃ t, s = some t ∧ (withL l fs c).2 < t.2) then some (c, (withL l fs c).2) else s) := fun _ _ => rfl
  have HW := fun C c cap3 w (hc : Cho fs c) hr hf hk => Lib.hid (rwith_c A l cap B fs cap2 C c cap3 w hv (cho_in hc) (by have := cho_len hc hn8; omega) hr hf hk)
  have HWL := Lib.hid (fun c => withL_len l fs c)
  have HCl := Lib.hid (fun D c cap4 w (hc : Cho fs c) hd => rcloses_c D (withL l fs c).1 cap4 8 m e w (val_ok (with_ok hv hc).1) (valE_ok (with_ok hv hc).1).1 (by decide) hL hd)
  have HCho := Lib.hid (fun k (hk : k < (allF fs).length) => all_cho hk)
  have hb0 := bl_alloc (Below.refl w.heap.size w) (.cells #[.int .i64 m, .int .i64 e] 30)
  have x0 : Bx (w.alloc (.cells #[.int .i64 m, .int .i64 e] 30)) w.heap.size 30 #[.int .i64 m, .int .i64 e] := Bx.new w _ _
  have HC0 := rchoices_c B fs cap2 hn8 fs.length none [] 0 (w.alloc (.cells #[.int .i64 m, .int .i64 e] 30)) (Nat.le_refl _) (by simp) (.inl ⟨rfl, rfl⟩) (hf.later hb0) (.inl rfl)
  unfold OutCh at HC0
  have HC := Lib.hid HC0
  have HAF : Hid (allF fs = [] :: goF fs fs.length []) := rfl
  clear HC0 hv hL hn8
  go_enter Try.func85, Try.ntmps85
  go_wp2_with (fail)
  refine HC.out.mono ?_
  rintro f w1 ⟨A1, c1, hs, rfl, hown, htab0, hb1⟩
  have htab1 := htab0.cons0
  rw [← HAF.out] at htab1
  have hlen : hs.length + 1 = (allF fs).length := by have := htab1.1; simpa using this
  rw [hlen] at hown ⊢
  have x1 := x0.call hb1
  have hb01 := bl_call hb0 hb1
  have hkN : ([] : List Int).length = 0 := rfl
  have HLn := Lib.hid hlen
  generalize hrow : (Value.slice none ([] : List Int).length 0 :: hs) = rows at hown
  have htab : Tab w1 (w.alloc (.cells #[.int .i64 m, .int .i64 e] 30)).heap.size rows (allF fs) := by rw [← hrow]; exact htab1
  have htb := Lib.hid htab
  have hro := Lib.hid (own_rd hown).1
  have hw1 : Below w1.heap.size w1 w1 := Below.refl _ _
  clear HC HAF x0 hb0 hb1 htab0 htab1 hrow hlen hkN htab hown HLn
  generalize allF fs = L at *
  go_wp2_with (fail)
  go_loopg [9, 10, 11, 13] L.length (fun gk bv kv zv iv wr => ∃ (k : Nat) (D : Option Addr) (d : Nat), Hid (k + gk = L.length) ∧ iv = .int .i64 (k : Int) ∧ bv = .slice D (rC (cheapTo l fs m e (L.take k))).length d ∧ kv = .int .i64 (rK (cheapTo l fs m e (L.take k))) ∧ zv = .bool (cheapTo l fs m e (L.take k)).isSome ∧ Rd wr D (ints (rC (cheapTo l fs m e (L.take k)))) ∧ Bx wr w.heap.size 30 #[.int .i64 m, .int .i64 e] ∧ Below w1.heap.size w1 wr)
  case atStart => exact ⟨0, none, 0, by simp [Hid], rfl, by rw [HS0.out]; rfl, by rw [HS0.out]; rfl, by rw [HS0.out]; rfl, .inl (by rw [HS0.out]; rfl), x1, hw1⟩
  case round =>
    clear x1 hw1
    obtain ⟨k, D, d, HK, rfl, rfl, rfl, rfl, hrd, hx, hb⟩ := hrel
    rcases gk with _ | gi
    · obtain rfl : k = L.length := HK.out
      rw [List.take_length, ← HR.out] at hrd ⊢
      generalize cheapR l fs m e = s at *
      go_wp2_with (fail)
      go_ret3
      exact ⟨D, d, rfl, hrd, bl_call hb01 hb⟩
    · have hkl : k < L.length := by have := HK.out; omega
      have hkl' : (k : Int) < (L.length : Int) := by omega
      obtain ⟨Ak, ck, hk1, hk2⟩ := htb.out.2 k hkl
      have hlr : k < rows.length := by rw [htb.out.1]; exact hkl
      obtain ⟨ba, oa, hA1, hbal, hcel⟩ := (hro.out.later hb).at_ hlr
      have hc0 := hcel k _ hk1
      have hrk := (own_rd (own_call hk2 hb)).1
      have hcho := HCho.out k hkl
      have HTk := Lib.hid (HTS.out k hkl)
      have HCk := HCS.out (cheapTo l fs m e (L.take k)) (L.getD k [])
      rw [← HTk.out] at HCk
      have HWk := HW Ak (L.getD k []) ck wr hcho (hr.later (bl_call hb01 hb)) (hf.later (bl_call hb01 hb)) hrk
      have HClk := Lib.hid (fun D cap4 w hd => HCl.out D (L.getD k []) cap4 w hcho hd)
      have hwl := HWL.out (L.getD k [])
      rw [hwl] at HClk
      subst hA1
      have hrl := Lib.hid hrk
      have HCE := Lib.hid (fun W (hW : Below wr.heap.size wr W) => (hW.cell (p := ⟨ba, oa + k, none⟩) hbal).trans hc0)
      clear hk1 hk2 hcel hcho hwl HTk hrk hbal
      generalize L.getD k [] = c at *
      generalize withL l fs c = wl at *
      generalize closeB wl.1 m e = z at *
      generalize hsv : cheapTo l fs m e (L.take k) = s at *
      generalize hsn : cheapTo l fs m e (L.take (k + 1)) = sn at *
      have HSN := Lib.hid hsn
      have F1 : Hid (s.isSome = false → z = true → sn = some (c, wl.2)) := fun h1 h2 => by
        cases s with
        | none => rw [HCk, if_pos ⟨h2, .inl rfl⟩]
        | some t => cases h1
      have F2 : Hid (s.isSome = true → z = true → wl.2 < rK s → sn = some (c, wl.2)) := fun h1 h2 h3 => by
        cases s with
        | none => cases h1
        | some t => rw [HCk, if_pos ⟨h2, .inr ⟨t, rfl, h3⟩⟩]
      have F3 : Hid (s.isSome = true → rK s ≤ wl.2 → sn = s) := fun h1 h3 => by
        cases s with
        | none => cases h1
        | some t => rw [HCk, if_neg]; rintro ⟨_, h | ⟨t', h, h'⟩⟩; cases h; cases h; have h3' : t.2 ≤ wl.2 := h3; omega
      have F4 : Hid (z = false → sn = s) := fun h => by rw [HCk, if_neg]; rintro ⟨h', _⟩; rw [h] at h'; cases h'
      clear hsv hsn HCk
      go_wp2_with (fail)
      refine HWk.out.mono ?_
      rintro f w3 ⟨A3, c3, rfl, ho3, hb3⟩
      have hb03 := bl_call hb hb3
      have hb3' := Lib.hid hb3
      have hx3 := hx.call hb3
      have hrd3 := hrd.later hb3
      have hrl3 := Lib.hid (hrl.out.later hb3)
      obtain ⟨y0, y1, _, _⟩ := hx3.two
      clear hb hx hrd hb3
      go_wp2_with (fail)
      refine (HClk.out _ _ _ (own_rd ho3).1).mono ?_
      rintro f w4 ⟨rfl, hb4⟩
      have hb04 := bl_call hb03 hb4
      have hb4' := bl_call hb3'.out hb4
      have hx4 := hx3.call hb4
      have hrd4 := hrd3.later hb4
      have hrl4 := hrl3.out.later hb4
      have hc4 := HCE.out w4 hb4'
      obtain ⟨r, hrs⟩ : ∃ r, r = rK s := ⟨_, rfl⟩
      rw [← hrs] at F2 F3 ⊢
      have HRS := Lib.hid hrs
      obtain ⟨o, hos⟩ : ∃ o, o = s.isSome := ⟨_, rfl⟩
      rw [← hos] at F1 F2 F3 ⊢
      have HOS := Lib.hid hos
      clear hrs hos HCE HClk HWk hc0
      cases z with
      | false =>
        have hN := Lib.hid (F4.out rfl)
        go_wp2_with (fail)
        go_roundg gi
        case rel => exact ⟨k + 1, D, d, by have := HK.out; show _ = _; omega, by go_num, by rw [HSN.out, hN.out], by rw [HSN.out, hN.out, HRS.out], by rw [HSN.out, hN.out, HOS.out], by rw [HSN.out, hN.out]; exact hrd4, hx4, hb04⟩
        case measure => omega
      | true =>
        cases o with
        | false =>
          have hN := Lib.hid (F1.out rfl rfl)
          go_wp2_with (fail)
          go_roundg gi
          case rel => exact ⟨k + 1, Ak, ck, by have := HK.out; show _ = _; omega, by go_num, by rw [HSN.out, hN.out]; rfl, by rw [HSN.out, hN.out]; rfl, by rw [HSN.out, hN.out]; rfl, by rw [HSN.out, hN.out]; exact hrl4, hx4, hb04⟩
          case measure => omega
        | true =>
          by_cases hlt : wl.2 < r
          · have hN := Lib.hid (F2.out rfl rfl hlt)
            go_wp2_with (fail)
            go_roundg gi
            case rel => exact ⟨k + 1, Ak, ck, by have := HK.out; show _ = _; omega, by go_num, by rw [HSN.out, hN.out]; rfl, by rw [HSN.out, hN.out]; rfl, by rw [HSN.out, hN.out]; rfl, by rw [HSN.out, hN.out]; exact hrl4, hx4, hb04⟩
            case measure => omega
          · have hN := Lib.hid (F3.out rfl (by omega))
            go_wp2_with (fail)
            go_roundg gi
            case rel => exact ⟨k + 1, D, d, by have := HK.out; show _ = _; omega, by go_num, by rw [HSN.out, hN.out], by rw [HSN.out, hN.out, HRS.out], by rw [HSN.out, hN.out]; exact congrArg Value.bool HOS.out, by rw [HSN.out, hN.out]; exact hrd4, hx4, hb04⟩
            case measure => omega
set_option maxHeartbeats 2000000 in
theorem rCheapest_c (A : Option Addr) (l : List It) (cap : Nat) (B : Option Addr) (fs : List Fx) (cap2 : Nat) (m e : Int) (w : World) (hlen : l.length ≤ 1000) (hlen2 : fs.length ≤ 1000) (hr : Rd w A (cellsI l)) (hf : Rd w B (cellsF fs)) :
    Calls Try.prog 42 #[.slice A l.length cap, .slice B fs.length cap2, .agg #[.int .i64 m, .int .i64 e]] w fun f w' => f = .returned (.tuple #[.int .i64 (chK l fs m e), .bool (chB l fs m e), .int .i64 (byE l fs m e)]) ∧ Below w.heap.size w w' := by
  have hb0 := bl_alloc (Below.refl w.heap.size w) (.cells #[.int .i64 m, .int .i64 e] 30)
  have x0 : Bx (w.alloc (.cells #[.int .i64 m, .int .i64 e] 30)) w.heap.size 30 #[.int .i64 m, .int .i64 e] := Bx.new w _ _
  obtain ⟨y0, y1, _, _⟩ := x0.two
  have HV := Lib.hid (rlimited_c A l cap B fs cap2 m e _ hlen hlen2 (hr.later hb0) (hf.later hb0))
  by_cases hv : byE l fs m e = 0
  · have hK : chK l fs m e = chpK l fs m e := by unfold chK; rw [if_pos hv]
    have hB : chB l fs m e = chpB l fs m e := by unfold chB; rw [if_pos hv]
    have HC := fun w hr hf => Lib.hid (rcheapest_c A l cap B fs cap2 m e w (byE_ok hv).1 (byE_ok hv).2 hr hf)
    rw [hv] at HV ⊢
    rw [hK, hB]
    clear hv hK hB
    generalize chpK l fs m e = k at *
    generalize chpB l fs m e = z at *
    generalize chpC l fs m e = c at *
    go_enter Try.func42, Try.ntmps42
    go_wp2_with (fail)
    refine HV.out.mono ?_
    rintro f w1 ⟨rfl, hb1⟩
    have x1 := x0.call hb1
    have hb01 := bl_call hb0 hb1
    obtain ⟨y2, y3, _, _⟩ := x1.two
    clear HV x0 y0 y1 hb1
    go_wp2_with (fail)
    refine (HC _ (hr.later hb01) (hf.later hb01)).out.mono ?_
    rintro f w2 ⟨A2, c2, rfl, _, hb2⟩
    have hb02 := bl_call hb01 hb2
    go_wp2_with (fail)
    go_ret3
    exact ⟨rfl, hb02⟩
  · have hK : chK l fs m e = 0 := by unfold chK; rw [if_neg hv]
    have hB : chB l fs m e = false := by unfold chB; rw [if_neg hv]
    have hv' : (byE l fs m e == 0) = false := by rw [beq_eq_false_iff_ne]; exact hv
    rw [hK, hB]
    clear hK hB
    generalize byE l fs m e = z at *
    go_enter Try.func42, Try.ntmps42
    go_wp2_with (fail)
    refine HV.out.mono ?_
    rintro f w1 ⟨rfl, hb1⟩
    go_wp2_with (fail)
    go_ret3
    exact ⟨rfl, bl_call hb0 hb1⟩
set_option maxHeartbeats 2000000 in
theorem rChoice_c (A : Option Addr) (l : List It) (cap : Nat) (B : Option Addr) (fs : List Fx) (cap2 : Nat) (m e : Int) (w : World) (hlen : l.length ≤ 1000) (hlen2 : fs.length ≤ 1000) (hr : Rd w A (cellsI l)) (hf : Rd w B (cellsF fs)) :
    Calls Try.prog 44 #[.slice A l.length cap, .slice B fs.length cap2, .agg #[.int .i64 m, .int .i64 e]] w fun f w' => ∃ A' c', f = .returned (.tuple #[.slice A' (chC l fs m e).length c', .bool (chB l fs m e), .int .i64 (byE l fs m e)]) ∧ Rd w' A' (ints (chC l fs m e)) ∧ Below w.heap.size w w' := by
  have hb0 := bl_alloc (Below.refl w.heap.size w) (.cells #[.int .i64 m, .int .i64 e] 30)
  have x0 : Bx (w.alloc (.cells #[.int .i64 m, .int .i64 e] 30)) w.heap.size 30 #[.int .i64 m, .int .i64 e] := Bx.new w _ _
  obtain ⟨y0, y1, _, _⟩ := x0.two
  have HV := Lib.hid (rlimited_c A l cap B fs cap2 m e _ hlen hlen2 (hr.later hb0) (hf.later hb0))
  by_cases hv : byE l fs m e = 0
  · have hC : chC l fs m e = chpC l fs m e := by unfold chC; rw [if_pos hv]
    have hB : chB l fs m e = chpB l fs m e := by unfold chB; rw [if_pos hv]
    have HC := fun w hr hf => Lib.hid (rcheapest_c A l cap B fs cap2 m e w (byE_ok hv).1 (byE_ok hv).2 hr hf)
    rw [hv] at HV ⊢
    rw [hC, hB]
    clear hv hC hB
    generalize chpK l fs m e = k at *
    generalize chpB l fs m e = z at *
    generalize chpC l fs m e = c at *
    go_enter Try.func44, Try.ntmps44
    go_wp2_with (fail)
    refine HV.out.mono ?_
    rintro f w1 ⟨rfl, hb1⟩
    have x1 := x0.call hb1
    have hb01 := bl_call hb0 hb1
    obtain ⟨y2, y3, _, _⟩ := x1.two
    clear HV x0 y0 y1 hb1
    go_wp2_with (fail)
    refine (HC _ (hr.later hb01) (hf.later hb01)).out.mono ?_
    rintro f w2 ⟨A2, c2, rfl, hrc, hb2⟩
    have hb02 := bl_call hb01 hb2
    go_wp2_with (fail)
    go_ret3
    exact ⟨A2, c2, rfl, hrc, hb02⟩
  · have hC : chC l fs m e = [] := by unfold chC; rw [if_neg hv]
    have hB : chB l fs m e = false := by unfold chB; rw [if_neg hv]
    have hv' : (byE l fs m e == 0) = false := by rw [beq_eq_false_iff_ne]; exact hv
    rw [hC, hB]
    clear hC hB
    generalize byE l fs m e = z at *
    go_enter Try.func44, Try.ntmps44
    go_wp2_with (fail)
    refine HV.out.mono ?_
    rintro f w1 ⟨rfl, hb1⟩
    go_wp2_with (fail)
    go_ret3
    exact ⟨none, 0, rfl, .inl rfl, bl_call hb0 hb1⟩
end Go.Proofs.Ytgbjglkiaoplmaa
