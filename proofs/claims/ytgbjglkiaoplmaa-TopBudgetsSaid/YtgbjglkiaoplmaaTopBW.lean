/- The walk of 'TopBudgets'. -/
import Derived.Test.YtgbjglkiaoplmaaTopBN
namespace Go.Proofs.Ytgbjglkiaoplmaa
open Go.RowKit

set_option maxRecDepth 100000 in
set_option maxHeartbeats 32000000 in
theorem topB_pos (A : Option Addr) (l : List It) (cap : Nat) (B : Option Addr) (fs : List Fx) (cap2 : Nat) (m e : Int) (w : World) (hL : ¬ 50 < l.length) (hL2 : ¬ 50 < fs.length) (hv : valE l = 0) (hp0 : 0 < (totG l).1) (hr : Rd w A (cellsI l)) (hs : Rd w B (cellsF fs)) :
    Calls Try.prog 17 #[.slice A l.length cap, .slice B fs.length cap2, .agg #[.int .i64 m, .int .i64 e]] w fun e w' => e = .returned (.bool true) ∧ Below w.heap.size w w' := by
  have hb0 := bl_alloc (Below.refl w.heap.size w) (.cells #[.int .i64 m, .int .i64 e] 30)
  have y0 : Bx (w.alloc (.cells #[.int .i64 m, .int .i64 e] 30)) w.heap.size 30 #[.int .i64 m, .int .i64 e] := Bx.new w _ _
  have hb00 := bl_alloc (Below.refl (w.alloc (.cells #[.int .i64 m, .int .i64 e] 30)).heap.size (w.alloc (.cells #[.int .i64 m, .int .i64 e] 30))) (.cells #[.int .i64 2, .int .i64 1, .int .i64 10, .int .i64 1, .int .i64 1, .int .i64 4] 50)
  have hbI := bl_call hb0 hb00
  have yI := y0.call hb00
  have rI : Rd ((w.alloc (.cells #[.int .i64 m, .int .i64 e] 30)).alloc (.cells #[.int .i64 2, .int .i64 1, .int .i64 10, .int .i64 1, .int .i64 1, .int .i64 4] 50)) (some ⟨(w.alloc (.cells #[.int .i64 m, .int .i64 e] 30)).heap.size, 0, none⟩) (cellsI exB) := Bx.rd (Bx.new _ _ _)
  rw [World.size_alloc] at rI
  have HWst := fun W hr => Lib.hid (exB_c (w.heap.size + 1) W hr)
  generalize exB = ex at *
  clear hb0 hb00 y0
  have HCh := Lib.hid (fun W hr hs => Cheapest_c A l cap B fs cap2 m e W (by omega) (by omega) hr hs)
  have HCo := Lib.hid (fun W hr hs => Choice_c A l cap B fs cap2 m e W (by omega) (by omega) hr hs)
  have HBe := Lib.hid (fun k W hr hs => Best_c A l cap B fs cap2 k W (by omega) (by omega) hr hs)
  have HCl := Lib.hid (fun W hr => Closes_c A l cap m e W (by omega) hr)
  have HWi := Lib.hid (fun h C c W hr hs hc => topWi_c A l cap B fs cap2 m e C c W (by omega) (by omega) h hr hs hc)
  have HCk := Lib.hid (fun h C c W hr hs hc => topCk_c A l cap B fs cap2 m e C c W (by omega) (by omega) h hr hs hc)
  have HCf := Lib.hid (fun h D d W hr => topCf_c D l d fs m e W (by omega) h hr)
  have HWY := Lib.hid (top_way l fs m e)
  generalize he_ : e = e_ at *
  clear he_ e
  have hd : decide (50 < l.length) = false := decide_eq_false hL
  have hL3 : ¬ (50 : Int) < (fs.length : Int) := by omega
  have hl6 := (valE_ok hv).1
  obtain ⟨tf, tE, tG, tx, tpos⟩ := top_total hv
  have HT := fun W hr => Lib.hid (Total_c A l cap W (by omega) hr)
  have HSh := fun W hr => Lib.hid (topSh_c A l cap W hv hr)
  have HC1 := fun W hr => Lib.hid (Closes_c A l cap (totG l).1 (totG l).2 W (by omega) hr)
  rw [hv] at HT
  rw [tE, tG] at HC1
  obtain ⟨p1, p2⟩ := tpos hp0
  have HC2 := fun W hr => Lib.hid (Closes_c A l cap ((totG l).1 - 1) (totG l).2 W (by omega) hr)
  rw [p1, p2] at HC2
  clear p1 p2
  have t0 : ¬ (totG l).2 < 1 := by have := tf.d0; omega
  have t1 : ¬ 2520 < (totG l).2 := by have := tf.d1; omega
  have t2 : ¬ (totG l).1 < 0 := by have := tf.n0; omega
  have t3 : ¬ 1000000 < (totG l).1 := by have := tf.n1; omega
  have t4 : wrap64 ((totG l).1 - 1) = (totG l).1 - 1 := IntWalk.wrap64_in _ ⟨by omega, by omega⟩
  have hP := parts_bound hv
  have t5 : wrap64 ((totG l).1 * 2520) = (totG l).1 * 2520 := IntWalk.wrap64_in _ ⟨by omega, by omega⟩
  have t6 : wrap64 (partsL l * (totG l).2) = (totG l).1 * 2520 := by rw [tx]; exact t5
  have t7 : ¬ 1000000 < partsL l := by omega
  have HAl := Lib.hid (fun D d W hr hs => topAl_c A l cap D d W hv hr hs)
  have HAk := Lib.hid (fun D d W k hk hp hr hs => topAk_c A l cap D d W hv k hk hp hr hs)
  have HRm := Lib.hid (fun W k hk hp hr => topRm_c A l cap W hv k hk hp hr)
  have HSG := Lib.hid (fun k (hk : k < l.length) => show (0 < ((shrF l).getD k (0, 0)).2 ∧ ((shrF l).getD k (0, 0)).2 ≤ 2520) ∧ (0 ≤ ((shrF l).getD k (0, 0)).1 ∧ ((shrF l).getD k (0, 0)).1 ≤ 120960) ∧ ((shrF l).getD k (0, 0)).1 * (2520 / ((shrF l).getD k (0, 0)).2) = shareP (l.getD k it0) by
    rw [shrF_get hk]
    obtain ⟨s1, s2, s3⟩ := share_parts hv hk
    have hf := fair_rat (p := shareP (l.getD k it0)) ⟨s1, by omega⟩
    exact ⟨⟨hf.d0, hf.d1⟩, ⟨hf.n0, hf.n1⟩, top_share _⟩)
  have HSB := Lib.hid (fun k (hk : k < l.length) => show 0 ≤ shareP (l.getD k it0) ∧ shareP (l.getD k it0) ≤ 120960 by
    obtain ⟨s1, s2, s3⟩ := share_parts hv hk
    omega)
  have HPB := Lib.hid (fun k (hk : k ≤ l.length) => show 0 ≤ partsTo l k ∧ partsTo l k ≤ 120960 by
    have h1 := parts_in (by decide) (val_ok hv) k hk
    omega)
  have HPS : Hid (∀ k, partsTo l (k + 1) = partsTo l k + shareP (l.getD k it0)) := fun k => rfl
  have HP0 : Hid (partsTo l 0 = 0) := rfl
  have HPL : Hid (partsTo l l.length = partsL l) := rfl
  have HTk := Lib.hid (fun k (hk : k < l.length) => show (PL l).take (k + 1) = (PL l).take k ++ [shareP (l.getD k it0)] by
    have hk' : k < (PL l).length := by rw [PL_len]; exact hk
    rw [List.take_succ_eq_append_getElem hk', ← PL_get hk]
    congr 2
    simp [hk'])
  have HTl := Lib.hid (fun k (hk : k ≤ l.length) => show ((PL l).take k).length = k by rw [List.length_take, PL_len]; omega)
  have HTa : Hid ((PL l).take l.length = PL l) := by show _ = _; rw [← PL_len l]; exact List.take_length
  have HPg := Lib.hid (fun k (hk : k < l.length) => PL_get hk)
  have HPn := Lib.hid (PL_len l)
  have HXX := Lib.hid hv
  clear tE tG tpos tf hP hv tx
  generalize totG l = t at *
  generalize partsL l = P at *
  go_enter Try.func17, Try.ntmps17
  obtain ⟨fx0, fx1, _, _⟩ := yI.two
  go_wp2_with (fail)
  refine ((HWst _ rI).out).mono ?_
  rintro e w1 ⟨A1, c1, rfl, hr1, hb1⟩
  have hk1 := bl_call hbI hb1
  have xx1 := yI.call hb1
  clear fx0 fx1 hbI yI
  obtain ⟨fx0, fx1, _, _⟩ := xx1.two
  obtain ⟨b1, o1, rfl, _, z0⟩ := hr1.one (k := 0) (by decide)
  replace z0 : w1.cell? ⟨b1, o1, none⟩ = some (.int .i64 1) := z0
  go_wp2_with (fail)
  refine (Long_c _ _ _ _).mono ?_
  rintro e q2 ⟨rfl, rfl⟩
  rw [hd]
  go_wp2_with (fail)
  refine ((HT _ (hr.later hk1)).out).mono ?_
  rintro e w3 ⟨rfl, hb3⟩
  have hk3 := bl_call hk1 hb3
  have xx3 := xx1.call hb3
  clear fx0 fx1 hk1 xx1
  obtain ⟨fx0, fx1, _, _⟩ := xx3.two
  have hn4 := bl_alloc (Below.refl w3.heap.size w3) (.cells #[.int .i64 t.1, .int .i64 t.2] 30)
  have y4 : Bx (w3.alloc (.cells #[.int .i64 t.1, .int .i64 t.2] 30)) w3.heap.size 30 #[.int .i64 t.1, .int .i64 t.2] := Bx.new w3 _ _
  have hk4 := bl_call hk3 hn4
  have xx4 := xx3.call hn4
  clear fx0 fx1 hk3 xx3
  clear hn4
  obtain ⟨fx0, fx1, _, _⟩ := xx4.two
  obtain ⟨ft0, ft1, _, _⟩ := y4.two
  go_wp2_with (fail)
  refine ((HSh _ (hr.later hk4)).out).mono ?_
  rintro e w5 ⟨A2, c2, rfl, hrS, hb5⟩
  have hk5 := bl_call hk4 hb5
  have xx5 := xx4.call hb5
  have xt5 := y4.call hb5
  clear fx0 fx1 ft0 ft1 hk4 xx4 y4
  obtain ⟨fx0, fx1, _, _⟩ := xx5.two
  obtain ⟨ft0, ft1, _, _⟩ := xt5.two
  go_wp2_with (fail)
  refine ((HC1 _ (hr.later hk5)).out).mono ?_
  rintro e w6 ⟨rfl, hb6⟩
  have hk6 := bl_call hk5 hb6
  have xx6 := xx5.call hb6
  have xt6 := xt5.call hb6
  have rS6 := hrS.later hb6
  clear fx0 fx1 ft0 ft1 hk5 xx5 xt5 hrS
  obtain ⟨fx0, fx1, _, _⟩ := xx6.two
  obtain ⟨ft0, ft1, _, _⟩ := xt6.two
  go_wp2_with (fail)
  refine ((HC2 _ (hr.later hk6)).out).mono ?_
  rintro e w7 ⟨rfl, hb7⟩
  have hk7 := bl_call hk6 hb7
  have xx7 := xx6.call hb7
  have xt7 := xt6.call hb7
  have rS7 := rS6.later hb7
  clear fx0 fx1 ft0 ft1 hk6 xx6 xt6 rS6
  obtain ⟨fx0, fx1, _, _⟩ := xx7.two
  obtain ⟨ft0, ft1, _, _⟩ := xt7.two
  clear HT HSh HC1 HWst rI HC2
  go_wp2_with (fail)
  go_loopg [17, 18, 19] l.length (fun gk pv sv iv wr => ∃ (k : Nat) (D : Option Addr) (d : Nat), Hid (k + gk = l.length) ∧ pv = .slice D k d ∧ sv = .int .i64 (partsTo l k) ∧ iv = .int .i64 (k : Int) ∧ wr.ownsRow w7.heap.size 3 1 (.slice D k d) k (ints ((PL l).take k)) ∧ Below w7.heap.size w7 wr)
  case atStart => exact ⟨0, none, 0, by simp [Hid], rfl, by rw [HP0.out], rfl, World.ownsRow_nil _ _ _ _, Below.refl _ _⟩
  case round =>
    clear fx0 fx1 ft0 ft1
    obtain ⟨k, D, d, HKn, rfl, rfl, rfl, hown, hb⟩ := hrel
    rcases gk with _ | gi
    rotate_left
    · have hkl : k < l.length := by have := HKn.out; omega
      have hkl' : (k : Int) < (l.length : Int) := by omega
      obtain ⟨⟨s0, s1⟩, ⟨s2, s3⟩, s4⟩ := HSG.out k hkl
      obtain ⟨b1, o1, rfl, _, f0, f1⟩ := (rS7.later hb).rt (k := k) (by rw [shrF_len]; exact hkl)
      have hsb := HSB.out k hkl
      have hpb := HPB.out k (by omega)
      have HSk := Lib.hid (HPS.out k)
      have HTkk := HTk.out k hkl
      generalize ((shrF l).getD k (0, 0)) = s at *
      have g0 : ¬ s.2 < 1 := by omega
      have g1 : ¬ 2520 < s.2 := by omega
      have g2 : ¬ s.1 < 0 := by omega
      have g3 : ¬ 1000000 < s.1 := by omega
      have g4 : ¬ s.2 = 0 := by omega
      have Q1 : IntKind.i64.wrap ((2520 : Int).tdiv s.2) = 2520 / s.2 := IntWalk.i64_quo 2520 s.2 ⟨by decide, by omega, by omega⟩
      have Q2 : wrap64 (s.1 * (2520 / s.2)) = shareP (l.getD k it0) := by rw [s4]; exact IntWalk.wrap64_in _ ⟨by omega, by omega⟩
      have Q3 : wrap64 (partsTo l k + shareP (l.getD k it0)) = partsTo l k + shareP (l.getD k it0) := IntWalk.wrap64_in _ ⟨by omega, by omega⟩
      have hnx := bl_alloc (Below.refl wr.heap.size wr) (.cells #[.int .i64 (shareP (l.getD k it0))] 3)
      have hown1 : World.ownsRow (wr.alloc (.cells #[.int .i64 (shareP (l.getD k it0))] 3)).drew w7.heap.size 3 1 (.slice D k d) ((PL l).take k).length (ints ((PL l).take k)) := by rw [HTl.out k (by omega)]; exact (hown.alloc _).drew
      obtain ⟨A3, c3, W3, hE1, hown3, hg3⟩ := append_numsT w7.heap.size (wr.alloc (.cells #[.int .i64 (shareP (l.getD k it0))] 3)).drew (.slice D k d) ((PL l).take k) (some ⟨wr.heap.size, 0, none⟩) [shareP (l.getD k it0)] 1
        hown1 (Bx.rd (Bx.new wr _ _).drew) (by rw [HTl.out k (by omega)]; omega) (by simp) (by show w7.heap.size ≤ (wr.alloc _).heap.size; rw [World.size_alloc]; exact Nat.le_succ_of_le hb.size)
      have hb3 : Below w7.heap.size w7 W3 := ((bl_alloc hb _).drew).trans (grown_below hown1 hg3 (by show w7.heap.size ≤ (wr.alloc _).heap.size; rw [World.size_alloc]; exact Nat.le_succ_of_le hb.size))
      rw [← HTkk, HTl.out k (by omega)] at hown3
      rw [HTl.out k (by omega)] at hE1
      simp only [List.length_singleton] at hE1 hown3
      obtain ⟨b3, o3, rfl, _, z3⟩ := ((own_rd hown3).1).one (k := k) (by rw [HTl.out (k + 1) (by omega)]; omega)
      rw [HTkk] at z3
      have hz3 : ((PL l).take k ++ [shareP (l.getD k it0)]).getD k 0 = shareP (l.getD k it0) := by
        have := HTl.out k (by omega)
        simp [List.getD_eq_getElem?_getD, this]
      rw [hz3] at z3
      have E1 := Lib.hid hE1
      have HO := Lib.hid hown3
      clear hown hown1 hE1 hown3 hg3 hz3 HTkk s0 s1 s2 s3 s4 hsb hpb hnx
      generalize shareP (l.getD k it0) = sh at *
      generalize hq : 2520 / s.2 = q at *
      generalize hpk : partsTo l k = pk at *
      clear hq
      go_wp2_with (fail)
      go_region_law (refine step_append_run rfl (.tmp 180) (.tmp 193) 40 rfl (.slice D k d) (.slice (some ⟨wr.heap.size, 0, none⟩) 1 1) (.slice (some ⟨b3, o3, none⟩) (k + 1) c3) W3 (by first | rfl | simp [Act.eval, Act.put]) (by first | rfl | simp [Act.eval, Act.put]) (by first | exact E1.out | (rw [Q2]; exact E1.out) | (simp only [IntWalk.i64_left, Q2]; exact E1.out)) ?_)
      all_goals
        go_wp2_with (fail)
        go_roundg gi
        case rel => exact ⟨k + 1, _, c3, by have := HKn.out; show _ = _; omega, rfl, by rw [HSk.out, Q3], by go_num, HO.out, hb3⟩
        case measure => omega
    · obtain rfl : k = l.length := HKn.out
      rw [HTa.out] at hown
      rw [HPL.out]
      generalize hwL : wr = wL at *
      clear hwL
      have hkL := bl_call hk7 hb
      have xxL := xx7.call hb
      have xtL := xt7.call hb
      clear HPS HP0 HPL HTk HTl HTa HPB HSG HKn
      have rel := hb
      have hn21 := bl_alloc (Below.refl wL.heap.size wL) (.cells #[.int .i64 P, .int .i64 2520] 30)
      have y21 : Bx (wL.alloc (.cells #[.int .i64 P, .int .i64 2520] 30)) wL.heap.size 30 #[.int .i64 P, .int .i64 2520] := Bx.new wL _ _
      have hk21 := bl_call hkL hn21
      have xx21 := xxL.call hn21
      have xt21 := xtL.call hn21
      have oP21 := own_call hown hn21
      clear hkL xxL xtL hown
      clear hn21
      obtain ⟨fx0, fx1, _, _⟩ := xx21.two
      obtain ⟨ft0, ft1, _, _⟩ := xt21.two
      obtain ⟨fh0, fh1, _, _⟩ := y21.two
      have rel1 := bl_call rel (bl_alloc (Below.refl wL.heap.size wL) (.cells #[.int .i64 P, .int .i64 2520] 30))
      go_wp2_with (fail)
      refine ((HAl.out D d _ (hr.later hk21) (own_rd oP21).1)).mono ?_
      rintro e w22 ⟨rfl, hb22⟩
      have hk22 := bl_call hk21 hb22
      have xx22 := xx21.call hb22
      have xt22 := xt21.call hb22
      have xh22 := y21.call hb22
      have oP22 := own_call oP21 hb22
      clear fx0 fx1 ft0 ft1 fh0 fh1 hk21 xx21 xt21 y21 oP21
      obtain ⟨fx0, fx1, _, _⟩ := xx22.two
      obtain ⟨ft0, ft1, _, _⟩ := xt22.two
      obtain ⟨fh0, fh1, _, _⟩ := xh22.two
      have rel2 := bl_call rel1 hb22
      clear t4 HAl rel rel1
      go_wp2_with (fail)
      clear t0 t1 t2 t3 t5 t6 t7
      go_loopg [21, 22, 23] l.length (fun gk kv _ _ wr => ∃ k : Nat, Hid (k + gk = l.length) ∧ kv = .int .i64 (k : Int) ∧ wr.ownsRow w7.heap.size 3 1 (.slice D l.length d) l.length (ints (PL l)) ∧ Bx wr wL.heap.size 30 #[.int .i64 P, .int .i64 2520] ∧ Below w7.heap.size w7 wr)
      case atStart => exact ⟨0, by simp [Hid], rfl, oP22, xh22, rel2⟩
      case round =>
        clear fx0 fx1 ft0 ft1 fh0 fh1
        obtain ⟨k, HKn, rfl, hown2, hxh, hb2⟩ := hrel
        rcases gk with _ | gi
        rotate_left
        · have hkl : k < l.length := by have := HKn.out; omega
          have hkl' : (k : Int) < (l.length : Int) := by omega
          obtain ⟨g, rfl, hbg, hgl, q1, q2, hne, hput⟩ := own_putN hown2 HPn.out hkl
          have hbnd := HSB.out k hkl
          rw [HPg.out k hkl] at q2
          by_cases hp : 0 < shareP (l.getD k it0)
          · have hput1 := hput (shareP (l.getD k it0) - 1)
            have hbs1 := bl_set hb2 hbg (i := k) (.int .i64 (shareP (l.getD k it0) - 1))
            have hx1 : Bx (wr.setCell ⟨g, k, none⟩ (.int .i64 (shareP (l.getD k it0) - 1))) wL.heap.size 30 #[.int .i64 P, .int .i64 2520] := hxh.far (hne _ _ _ (by decide) hxh) _
            have HA1 := Lib.hid (HAk.out (some ⟨g, 0, none⟩) d _ k hkl hp (hr.later (bl_call hk7 hbs1)) (own_rd hput1).1)
            have HR1 := Lib.hid (fun W hr => HRm.out W k hkl hp hr)
            have hbk : (((PL l).set k (shareP (l.getD k it0) - 1)).set k (shareP (l.getD k it0))) = PL l := by
              rw [List.set_set, ← HPg.out k hkl]
              have hk' : k < (PL l).length := by rw [HPn.out]; exact hkl
              rw [List.getD_eq_getElem?_getD, List.getElem?_eq_getElem hk']
              exact List.set_getElem_self hk'
            have hgk : ((PL l).set k (shareP (l.getD k it0) - 1)).getD k 0 = shareP (l.getD k it0) - 1 := by
              have hk' : k < (PL l).length := by rw [HPn.out]; exact hkl
              simp [hk']
            have hln : ((PL l).set k (shareP (l.getD k it0) - 1)).length = l.length := by rw [List.length_set]; exact HPn.out
            clear hput HAk HRm
            generalize shareP (l.getD k it0) = sh at *
            generalize (PL l).set k (sh - 1) = PS at *
            have e1 : wrap64 (sh - 1) = sh - 1 := IntWalk.wrap64_in _ ⟨by omega, by omega⟩
            have e2 : wrap64 (sh - 1 + 1) = sh := by rw [show sh - 1 + 1 = sh by omega]; exact IntWalk.wrap64_in _ ⟨by omega, by omega⟩
            obtain ⟨h0, h1, _, _⟩ := hx1.two
            have HO1 := Lib.hid hput1
            clear hput1
            go_wp2_with (fail)
            refine HA1.out.mono ?_
            rintro f w6 ⟨rfl, hb6⟩
            clear h0 h1
            have hown6 := own_call HO1.out hb6
            have hb06 := bl_call hbs1 hb6
            have hx6 := hx1.call hb6
            obtain ⟨g2, hg2, hbg2, hgl2, q3, q4, hne2, hput2⟩ := own_putN hown6 hln hkl
            obtain rfl : g = g2 := by injection hg2 with h; injection h
            rw [hgk] at q4
            have hput3 := hput2 sh
            rw [hbk] at hput3
            have HO3 := Lib.hid hput3
            have hb7 := bl_set hb06 hbg (i := k) (.int .i64 sh)
            have hx7 : Bx (w6.setCell ⟨g, k, none⟩ (.int .i64 sh)) wL.heap.size 30 #[.int .i64 P, .int .i64 2520] := hx6.far (hne2 _ _ _ (by decide) hx6) _
            obtain ⟨h0, h1, _, _⟩ := hx7.two
            clear hput2 hput3 hg2 hbg2 hown6 HO1 HA1 hbk hgk hln q2 q1
            go_wp2_with (fail)
            refine (HR1.out _ (hr.later (bl_call hk7 hb7))).mono ?_
            rintro f w8 ⟨rfl, hb8⟩
            have hown8 := own_call HO3.out hb8
            go_wp2_with (fail)
            go_roundg gi
            case rel => exact ⟨k + 1, by have := HKn.out; show _ = _; omega, by go_num, hown8, hx7.call hb8, bl_call hb7 hb8⟩
            case measure => omega
          · clear hput hne
            generalize shareP (l.getD k it0) = sh at *
            go_wp2_with (fail)
            go_roundg gi
            case rel => exact ⟨k + 1, by have := HKn.out; show _ = _; omega, by go_num, hown2, hxh, hb2⟩
            case measure => omega
        · obtain rfl : k = l.length := HKn.out
          have hkE := bl_call hk7 hb2
          have xxE := xx7.call hb2
          have xtE := xt7.call hb2
          have xhE := hxh
          clear hown2 hxh hb2 HKn HSB HPg HPn HAk HRm rel2 hk22 xx22 xt22 xh22 oP22 hb22 hk7 xx7 xt7 rS7 hb7 hb
          generalize hwE : wr = wE at *
          clear hwE
          rcases HWY.out with ⟨a1, a2⟩ | ⟨a1, a2, b1, b2, ⟨b8, b3⟩, b4, b5, b6, b7⟩ | ⟨a1, a2, b1, b2, b3, ⟨b8, b9⟩, b5, b6, b7⟩
          · have HC := HCh.out wE (hr.later hkE) (hs.later hkE)
            rw [a2] at HC
            clear HCh HCo HBe HCl HWi HCk HCf HWY a2
            have a3 : (byE l fs m e_ == 0) = false := by rw [beq_eq_false_iff_ne]; exact a1
            clear a1
            generalize byE l fs m e_ = z at *
            generalize chK l fs m e_ = K at *
            obtain ⟨fx0, fx1, _, _⟩ := xxE.two
            obtain ⟨ft0, ft1, _, _⟩ := xtE.two
            obtain ⟨fh0, fh1, _, _⟩ := xhE.two
            go_wp2_with (fail)
            refine (HC).mono ?_
            rintro e w41 ⟨rfl, hb41⟩
            have hk41 := bl_call hkE hb41
            have xx41 := xxE.call hb41
            have xt41 := xtE.call hb41
            have xh41 := xhE.call hb41
            clear fx0 fx1 ft0 ft1 fh0 fh1 hkE xxE xtE xhE
            obtain ⟨fx0, fx1, _, _⟩ := xx41.two
            obtain ⟨ft0, ft1, _, _⟩ := xt41.two
            obtain ⟨fh0, fh1, _, _⟩ := xh41.two
            go_wp2_with (fail)
            go_ret
            exact ⟨rfl, hk41⟩
          · have HC := HCh.out wE (hr.later hkE) (hs.later hkE)
            rw [a1, a2] at HC
            rw [a1, a2] at HCo
            rw [b4, b5] at HCl
            have HB := Lib.hid (HBe.out 792)
            rw [b1] at HB
            have g0 := b2.d0
            have g1 := b2.d1
            have g2 := b2.n0
            have g3 := b2.n1
            have g4 : ¬ 1000000 < (bstG l fs 792).1 := by omega
            have g5 : ¬ 2520 < (bstG l fs 792).2 := by omega
            have g6 : wrap64 ((bstG l fs 792).1 * e_) = (bstG l fs 792).1 * e_ := by
              have := mul_in (a := (bstG l fs 792).1) (b := e_) (A := 120960) (B := 1000000) ⟨g2, g3⟩ ⟨by omega, by omega⟩
              exact IntWalk.wrap64_in _ ⟨by omega, by omega⟩
            have g7 : wrap64 (m * (bstG l fs 792).2) = m * (bstG l fs 792).2 := by
              have := mul_in (a := m) (b := (bstG l fs 792).2) (A := 1000000) (B := 2520) ⟨by omega, by omega⟩ ⟨by omega, g1⟩
              exact IntWalk.wrap64_in _ ⟨by omega, by omega⟩
            clear HCh HBe HWi HCk HCf HWY a1 a2 b1 b2 b4 b5
            generalize bstG l fs 792 = s at *
            generalize chK l fs m e_ = K at *
            generalize chC l fs m e_ = C at *
            obtain ⟨fx0, fx1, _, _⟩ := xxE.two
            obtain ⟨ft0, ft1, _, _⟩ := xtE.two
            obtain ⟨fh0, fh1, _, _⟩ := xhE.two
            go_wp2_with (fail)
            refine (HC).mono ?_
            rintro e w41 ⟨rfl, hb41⟩
            have hk41 := bl_call hkE hb41
            have xx41 := xxE.call hb41
            have xt41 := xtE.call hb41
            have xh41 := xhE.call hb41
            clear fx0 fx1 ft0 ft1 fh0 fh1 hkE xxE xtE xhE
            obtain ⟨fx0, fx1, _, _⟩ := xx41.two
            obtain ⟨ft0, ft1, _, _⟩ := xt41.two
            obtain ⟨fh0, fh1, _, _⟩ := xh41.two
            go_wp2_with (fail)
            refine ((HCo.out _ (hr.later hk41) (hs.later hk41))).mono ?_
            rintro e w42 ⟨A5, c5, rfl, rC, hb42⟩
            have hk42 := bl_call hk41 hb42
            have xx42 := xx41.call hb42
            have xt42 := xt41.call hb42
            have xh42 := xh41.call hb42
            clear fx0 fx1 ft0 ft1 fh0 fh1 hk41 xx41 xt41 xh41
            obtain ⟨fx0, fx1, _, _⟩ := xx42.two
            obtain ⟨ft0, ft1, _, _⟩ := xt42.two
            obtain ⟨fh0, fh1, _, _⟩ := xh42.two
            go_wp2_with (fail)
            refine ((HCl.out _ (hr.later hk42))).mono ?_
            rintro e w43 ⟨rfl, hb43⟩
            have hk43 := bl_call hk42 hb43
            have xx43 := xx42.call hb43
            have xt43 := xt42.call hb43
            have xh43 := xh42.call hb43
            clear fx0 fx1 ft0 ft1 fh0 fh1 hk42 xx42 xt42 xh42
            obtain ⟨fx0, fx1, _, _⟩ := xx43.two
            obtain ⟨ft0, ft1, _, _⟩ := xt43.two
            obtain ⟨fh0, fh1, _, _⟩ := xh43.two
            go_wp2_with (fail)
            refine ((HB.out _ (hr.later hk43) (hs.later hk43))).mono ?_
            rintro e w44 ⟨rfl, hb44⟩
            have hk44 := bl_call hk43 hb44
            have xx44 := xx43.call hb44
            have xt44 := xt43.call hb44
            have xh44 := xh43.call hb44
            clear fx0 fx1 ft0 ft1 fh0 fh1 hk43 xx43 xt43 xh43
            obtain ⟨fx0, fx1, _, _⟩ := xx44.two
            obtain ⟨ft0, ft1, _, _⟩ := xt44.two
            obtain ⟨fh0, fh1, _, _⟩ := xh44.two
            have hn45 := bl_alloc (Below.refl w44.heap.size w44) (.cells #[.int .i64 s.1, .int .i64 s.2] 30)
            have y45 : Bx (w44.alloc (.cells #[.int .i64 s.1, .int .i64 s.2] 30)) w44.heap.size 30 #[.int .i64 s.1, .int .i64 s.2] := Bx.new w44 _ _
            have hk45 := bl_call hk44 hn45
            have xx45 := xx44.call hn45
            have xt45 := xt44.call hn45
            have xh45 := xh44.call hn45
            clear fx0 fx1 ft0 ft1 fh0 fh1 hk44 xx44 xt44 xh44
            clear hn45
            obtain ⟨fx0, fx1, _, _⟩ := xx45.two
            obtain ⟨ft0, ft1, _, _⟩ := xt45.two
            obtain ⟨fh0, fh1, _, _⟩ := xh45.two
            obtain ⟨fs0, fs1, _, _⟩ := y45.two
            go_wp2_with (fail)
            go_ret
            exact ⟨rfl, hk45⟩
          · have HC := HCh.out wE (hr.later hkE) (hs.later hkE)
            rw [a1, a2] at HC
            rw [a1, a2] at HCo
            rw [b5, b6] at HCl
            have HB := Lib.hid (HBe.out (chK l fs m e_))
            rw [b1] at HB
            have g0 := b2.d0
            have g1 := b2.d1
            have g2 := b2.n0
            have g3 := b2.n1
            have g4 : ¬ 1000000 < (bstG l fs (chK l fs m e_)).1 := by omega
            have g5 : ¬ 2520 < (bstG l fs (chK l fs m e_)).2 := by omega
            have g8 : ¬ (bstG l fs (chK l fs m e_)).1 < 0 := by omega
            have g6 : wrap64 ((bstG l fs (chK l fs m e_)).1 * e_) = (bstG l fs (chK l fs m e_)).1 * e_ := by
              have := mul_in (a := (bstG l fs (chK l fs m e_)).1) (b := e_) (A := 120960) (B := 1000000) ⟨g2, g3⟩ ⟨by omega, by omega⟩
              exact IntWalk.wrap64_in _ ⟨by omega, by omega⟩
            have g7 : wrap64 (m * (bstG l fs (chK l fs m e_)).2) = m * (bstG l fs (chK l fs m e_)).2 := by
              have := mul_in (a := m) (b := (bstG l fs (chK l fs m e_)).2) (A := 1000000) (B := 2520) ⟨by omega, by omega⟩ ⟨by omega, g1⟩
              exact IntWalk.wrap64_in _ ⟨by omega, by omega⟩
            have HWi1 := Lib.hid (fun C c W hr hs hc => HWi.out a2 C c W hr hs hc)
            have HCk1 := Lib.hid (fun C c W hr hs hc => HCk.out a2 C c W hr hs hc)
            have HCf1 := Lib.hid (fun D d W hr => HCf.out a2 D d W hr)
            clear HCh HBe HWi HCk HCf HWY a1 a2 b1 b2 b5 b6 b7
            generalize bstG l fs (chK l fs m e_) = s at *
            generalize chK l fs m e_ = K at *
            generalize wtL l fs (chC l fs m e_) = WL at *
            generalize chC l fs m e_ = C at *
            by_cases hK : K = 0
            · subst hK
              rcases hlC : C.length with _ | n
              · simp only [hlC, decide_true, Bool.and_true] at HCl HCo HWi1 HCk1
                obtain ⟨fx0, fx1, _, _⟩ := xxE.two
                obtain ⟨ft0, ft1, _, _⟩ := xtE.two
                obtain ⟨fh0, fh1, _, _⟩ := xhE.two
                go_wp2_with (fail)
                refine (HC).mono ?_
                rintro e w41 ⟨rfl, hb41⟩
                have hk41 := bl_call hkE hb41
                have xx41 := xxE.call hb41
                have xt41 := xtE.call hb41
                have xh41 := xhE.call hb41
                clear fx0 fx1 ft0 ft1 fh0 fh1 hkE xxE xtE xhE
                obtain ⟨fx0, fx1, _, _⟩ := xx41.two
                obtain ⟨ft0, ft1, _, _⟩ := xt41.two
                obtain ⟨fh0, fh1, _, _⟩ := xh41.two
                go_wp2_with (fail)
                refine ((HCo.out _ (hr.later hk41) (hs.later hk41))).mono ?_
                rintro e w42 ⟨A5, c5, rfl, rC, hb42⟩
                have hk42 := bl_call hk41 hb42
                have xx42 := xx41.call hb42
                have xt42 := xt41.call hb42
                have xh42 := xh41.call hb42
                clear fx0 fx1 ft0 ft1 fh0 fh1 hk41 xx41 xt41 xh41
                obtain ⟨fx0, fx1, _, _⟩ := xx42.two
                obtain ⟨ft0, ft1, _, _⟩ := xt42.two
                obtain ⟨fh0, fh1, _, _⟩ := xh42.two
                go_wp2_with (fail)
                refine ((HCl.out _ (hr.later hk42))).mono ?_
                rintro e w43 ⟨rfl, hb43⟩
                have hk43 := bl_call hk42 hb43
                have xx43 := xx42.call hb43
                have xt43 := xt42.call hb43
                have xh43 := xh42.call hb43
                have rrC43 := rC.later hb43
                clear fx0 fx1 ft0 ft1 fh0 fh1 hk42 xx42 xt42 xh42 rC
                obtain ⟨fx0, fx1, _, _⟩ := xx43.two
                obtain ⟨ft0, ft1, _, _⟩ := xt43.two
                obtain ⟨fh0, fh1, _, _⟩ := xh43.two
                go_wp2_with (fail)
                refine ((HWi1.out A5 c5 _ (hr.later hk43) (hs.later hk43) rrC43)).mono ?_
                rintro e w44 ⟨A6, c6, rfl, rD, hb44⟩
                have hk44 := bl_call hk43 hb44
                have xx44 := xx43.call hb44
                have xt44 := xt43.call hb44
                have xh44 := xh43.call hb44
                have rrC44 := rrC43.later hb44
                clear fx0 fx1 ft0 ft1 fh0 fh1 hk43 xx43 xt43 xh43 rrC43
                obtain ⟨fx0, fx1, _, _⟩ := xx44.two
                obtain ⟨ft0, ft1, _, _⟩ := xt44.two
                obtain ⟨fh0, fh1, _, _⟩ := xh44.two
                go_wp2_with (fail)
                refine ((HCk1.out A5 c5 _ (hr.later hk44) (hs.later hk44) rrC44)).mono ?_
                rintro e w45 ⟨rfl, hb45⟩
                have hk45 := bl_call hk44 hb45
                have xx45 := xx44.call hb45
                have xt45 := xt44.call hb45
                have xh45 := xh44.call hb45
                have rrC45 := rrC44.later hb45
                have rrD45 := rD.later hb45
                clear fx0 fx1 ft0 ft1 fh0 fh1 hk44 xx44 xt44 xh44 rrC44 rD
                obtain ⟨fx0, fx1, _, _⟩ := xx45.two
                obtain ⟨ft0, ft1, _, _⟩ := xt45.two
                obtain ⟨fh0, fh1, _, _⟩ := xh45.two
                go_wp2_with (fail)
                refine ((HCf1.out A6 c6 _ rrD45)).mono ?_
                rintro e w46 ⟨rfl, hb46⟩
                have hk46 := bl_call hk45 hb46
                have xx46 := xx45.call hb46
                have xt46 := xt45.call hb46
                have xh46 := xh45.call hb46
                have rrC46 := rrC45.later hb46
                have rrD46 := rrD45.later hb46
                clear fx0 fx1 ft0 ft1 fh0 fh1 hk45 xx45 xt45 xh45 rrC45 rrD45
                obtain ⟨fx0, fx1, _, _⟩ := xx46.two
                obtain ⟨ft0, ft1, _, _⟩ := xt46.two
                obtain ⟨fh0, fh1, _, _⟩ := xh46.two
                go_wp2_with (fail)
                refine ((HB.out _ (hr.later hk46) (hs.later hk46))).mono ?_
                rintro e w47 ⟨rfl, hb47⟩
                have hk47 := bl_call hk46 hb47
                have xx47 := xx46.call hb47
                have xt47 := xt46.call hb47
                have xh47 := xh46.call hb47
                have rrC47 := rrC46.later hb47
                have rrD47 := rrD46.later hb47
                clear fx0 fx1 ft0 ft1 fh0 fh1 hk46 xx46 xt46 xh46 rrC46 rrD46
                obtain ⟨fx0, fx1, _, _⟩ := xx47.two
                obtain ⟨ft0, ft1, _, _⟩ := xt47.two
                obtain ⟨fh0, fh1, _, _⟩ := xh47.two
                have hn48 := bl_alloc (Below.refl w47.heap.size w47) (.cells #[.int .i64 s.1, .int .i64 s.2] 30)
                have y48 : Bx (w47.alloc (.cells #[.int .i64 s.1, .int .i64 s.2] 30)) w47.heap.size 30 #[.int .i64 s.1, .int .i64 s.2] := Bx.new w47 _ _
                have hk48 := bl_call hk47 hn48
                have xx48 := xx47.call hn48
                have xt48 := xt47.call hn48
                have xh48 := xh47.call hn48
                have rrC48 := rrC47.later hn48
                have rrD48 := rrD47.later hn48
                clear fx0 fx1 ft0 ft1 fh0 fh1 hk47 xx47 xt47 xh47 rrC47 rrD47
                clear hn48
                obtain ⟨fx0, fx1, _, _⟩ := xx48.two
                obtain ⟨ft0, ft1, _, _⟩ := xt48.two
                obtain ⟨fh0, fh1, _, _⟩ := xh48.two
                obtain ⟨fs0, fs1, _, _⟩ := y48.two
                go_wp2_with (fail)
                go_ret
                exact ⟨rfl, hk48⟩
              · simp only [hlC, decide_true, Bool.true_and, Nat.succ_ne_zero, decide_false] at HCl HCo HWi1 HCk1
                have hn0 : ¬ ((n : Int) + 1) = 0 := by omega
                obtain ⟨fx0, fx1, _, _⟩ := xxE.two
                obtain ⟨ft0, ft1, _, _⟩ := xtE.two
                obtain ⟨fh0, fh1, _, _⟩ := xhE.two
                go_wp2_with (fail)
                refine (HC).mono ?_
                rintro e w41 ⟨rfl, hb41⟩
                have hk41 := bl_call hkE hb41
                have xx41 := xxE.call hb41
                have xt41 := xtE.call hb41
                have xh41 := xhE.call hb41
                clear fx0 fx1 ft0 ft1 fh0 fh1 hkE xxE xtE xhE
                obtain ⟨fx0, fx1, _, _⟩ := xx41.two
                obtain ⟨ft0, ft1, _, _⟩ := xt41.two
                obtain ⟨fh0, fh1, _, _⟩ := xh41.two
                go_wp2_with (fail)
                refine ((HCo.out _ (hr.later hk41) (hs.later hk41))).mono ?_
                rintro e w42 ⟨A5, c5, rfl, rC, hb42⟩
                have hk42 := bl_call hk41 hb42
                have xx42 := xx41.call hb42
                have xt42 := xt41.call hb42
                have xh42 := xh41.call hb42
                clear fx0 fx1 ft0 ft1 fh0 fh1 hk41 xx41 xt41 xh41
                obtain ⟨fx0, fx1, _, _⟩ := xx42.two
                obtain ⟨ft0, ft1, _, _⟩ := xt42.two
                obtain ⟨fh0, fh1, _, _⟩ := xh42.two
                go_wp2_with (fail)
                refine ((HCl.out _ (hr.later hk42))).mono ?_
                rintro e w43 ⟨rfl, hb43⟩
                have hk43 := bl_call hk42 hb43
                have xx43 := xx42.call hb43
                have xt43 := xt42.call hb43
                have xh43 := xh42.call hb43
                have rrC43 := rC.later hb43
                clear fx0 fx1 ft0 ft1 fh0 fh1 hk42 xx42 xt42 xh42 rC
                obtain ⟨fx0, fx1, _, _⟩ := xx43.two
                obtain ⟨ft0, ft1, _, _⟩ := xt43.two
                obtain ⟨fh0, fh1, _, _⟩ := xh43.two
                go_wp2_with (fail)
                refine ((HWi1.out A5 c5 _ (hr.later hk43) (hs.later hk43) rrC43)).mono ?_
                rintro e w44 ⟨A6, c6, rfl, rD, hb44⟩
                have hk44 := bl_call hk43 hb44
                have xx44 := xx43.call hb44
                have xt44 := xt43.call hb44
                have xh44 := xh43.call hb44
                have rrC44 := rrC43.later hb44
                clear fx0 fx1 ft0 ft1 fh0 fh1 hk43 xx43 xt43 xh43 rrC43
                obtain ⟨fx0, fx1, _, _⟩ := xx44.two
                obtain ⟨ft0, ft1, _, _⟩ := xt44.two
                obtain ⟨fh0, fh1, _, _⟩ := xh44.two
                go_wp2_with (fail)
                refine ((HCk1.out A5 c5 _ (hr.later hk44) (hs.later hk44) rrC44)).mono ?_
                rintro e w45 ⟨rfl, hb45⟩
                have hk45 := bl_call hk44 hb45
                have xx45 := xx44.call hb45
                have xt45 := xt44.call hb45
                have xh45 := xh44.call hb45
                have rrC45 := rrC44.later hb45
                have rrD45 := rD.later hb45
                clear fx0 fx1 ft0 ft1 fh0 fh1 hk44 xx44 xt44 xh44 rrC44 rD
                obtain ⟨fx0, fx1, _, _⟩ := xx45.two
                obtain ⟨ft0, ft1, _, _⟩ := xt45.two
                obtain ⟨fh0, fh1, _, _⟩ := xh45.two
                go_wp2_with (fail)
                refine ((HCf1.out A6 c6 _ rrD45)).mono ?_
                rintro e w46 ⟨rfl, hb46⟩
                have hk46 := bl_call hk45 hb46
                have xx46 := xx45.call hb46
                have xt46 := xt45.call hb46
                have xh46 := xh45.call hb46
                have rrC46 := rrC45.later hb46
                have rrD46 := rrD45.later hb46
                clear fx0 fx1 ft0 ft1 fh0 fh1 hk45 xx45 xt45 xh45 rrC45 rrD45
                obtain ⟨fx0, fx1, _, _⟩ := xx46.two
                obtain ⟨ft0, ft1, _, _⟩ := xt46.two
                obtain ⟨fh0, fh1, _, _⟩ := xh46.two
                go_wp2_with (fail)
                refine ((HB.out _ (hr.later hk46) (hs.later hk46))).mono ?_
                rintro e w47 ⟨rfl, hb47⟩
                have hk47 := bl_call hk46 hb47
                have xx47 := xx46.call hb47
                have xt47 := xt46.call hb47
                have xh47 := xh46.call hb47
                have rrC47 := rrC46.later hb47
                have rrD47 := rrD46.later hb47
                clear fx0 fx1 ft0 ft1 fh0 fh1 hk46 xx46 xt46 xh46 rrC46 rrD46
                obtain ⟨fx0, fx1, _, _⟩ := xx47.two
                obtain ⟨ft0, ft1, _, _⟩ := xt47.two
                obtain ⟨fh0, fh1, _, _⟩ := xh47.two
                have hn48 := bl_alloc (Below.refl w47.heap.size w47) (.cells #[.int .i64 s.1, .int .i64 s.2] 30)
                have y48 : Bx (w47.alloc (.cells #[.int .i64 s.1, .int .i64 s.2] 30)) w47.heap.size 30 #[.int .i64 s.1, .int .i64 s.2] := Bx.new w47 _ _
                have hk48 := bl_call hk47 hn48
                have xx48 := xx47.call hn48
                have xt48 := xt47.call hn48
                have xh48 := xh47.call hn48
                have rrC48 := rrC47.later hn48
                have rrD48 := rrD47.later hn48
                clear fx0 fx1 ft0 ft1 fh0 fh1 hk47 xx47 xt47 xh47 rrC47 rrD47
                clear hn48
                obtain ⟨fx0, fx1, _, _⟩ := xx48.two
                obtain ⟨ft0, ft1, _, _⟩ := xt48.two
                obtain ⟨fh0, fh1, _, _⟩ := xh48.two
                obtain ⟨fs0, fs1, _, _⟩ := y48.two
                go_wp2_with (fail)
                go_ret
                exact ⟨rfl, hk48⟩
            · rw [decide_eq_false hK, Bool.false_and] at HCl
              obtain ⟨fx0, fx1, _, _⟩ := xxE.two
              obtain ⟨ft0, ft1, _, _⟩ := xtE.two
              obtain ⟨fh0, fh1, _, _⟩ := xhE.two
              go_wp2_with (fail)
              refine (HC).mono ?_
              rintro e w41 ⟨rfl, hb41⟩
              have hk41 := bl_call hkE hb41
              have xx41 := xxE.call hb41
              have xt41 := xtE.call hb41
              have xh41 := xhE.call hb41
              clear fx0 fx1 ft0 ft1 fh0 fh1 hkE xxE xtE xhE
              obtain ⟨fx0, fx1, _, _⟩ := xx41.two
              obtain ⟨ft0, ft1, _, _⟩ := xt41.two
              obtain ⟨fh0, fh1, _, _⟩ := xh41.two
              go_wp2_with (fail)
              refine ((HCo.out _ (hr.later hk41) (hs.later hk41))).mono ?_
              rintro e w42 ⟨A5, c5, rfl, rC, hb42⟩
              have hk42 := bl_call hk41 hb42
              have xx42 := xx41.call hb42
              have xt42 := xt41.call hb42
              have xh42 := xh41.call hb42
              clear fx0 fx1 ft0 ft1 fh0 fh1 hk41 xx41 xt41 xh41
              obtain ⟨fx0, fx1, _, _⟩ := xx42.two
              obtain ⟨ft0, ft1, _, _⟩ := xt42.two
              obtain ⟨fh0, fh1, _, _⟩ := xh42.two
              go_wp2_with (fail)
              refine ((HCl.out _ (hr.later hk42))).mono ?_
              rintro e w43 ⟨rfl, hb43⟩
              have hk43 := bl_call hk42 hb43
              have xx43 := xx42.call hb43
              have xt43 := xt42.call hb43
              have xh43 := xh42.call hb43
              have rrC43 := rC.later hb43
              clear fx0 fx1 ft0 ft1 fh0 fh1 hk42 xx42 xt42 xh42 rC
              obtain ⟨fx0, fx1, _, _⟩ := xx43.two
              obtain ⟨ft0, ft1, _, _⟩ := xt43.two
              obtain ⟨fh0, fh1, _, _⟩ := xh43.two
              go_wp2_with (fail)
              refine ((HWi1.out A5 c5 _ (hr.later hk43) (hs.later hk43) rrC43)).mono ?_
              rintro e w44 ⟨A6, c6, rfl, rD, hb44⟩
              have hk44 := bl_call hk43 hb44
              have xx44 := xx43.call hb44
              have xt44 := xt43.call hb44
              have xh44 := xh43.call hb44
              have rrC44 := rrC43.later hb44
              clear fx0 fx1 ft0 ft1 fh0 fh1 hk43 xx43 xt43 xh43 rrC43
              obtain ⟨fx0, fx1, _, _⟩ := xx44.two
              obtain ⟨ft0, ft1, _, _⟩ := xt44.two
              obtain ⟨fh0, fh1, _, _⟩ := xh44.two
              go_wp2_with (fail)
              refine ((HCk1.out A5 c5 _ (hr.later hk44) (hs.later hk44) rrC44)).mono ?_
              rintro e w45 ⟨rfl, hb45⟩
              have hk45 := bl_call hk44 hb45
              have xx45 := xx44.call hb45
              have xt45 := xt44.call hb45
              have xh45 := xh44.call hb45
              have rrC45 := rrC44.later hb45
              have rrD45 := rD.later hb45
              clear fx0 fx1 ft0 ft1 fh0 fh1 hk44 xx44 xt44 xh44 rrC44 rD
              obtain ⟨fx0, fx1, _, _⟩ := xx45.two
              obtain ⟨ft0, ft1, _, _⟩ := xt45.two
              obtain ⟨fh0, fh1, _, _⟩ := xh45.two
              go_wp2_with (fail)
              refine ((HCf1.out A6 c6 _ rrD45)).mono ?_
              rintro e w46 ⟨rfl, hb46⟩
              have hk46 := bl_call hk45 hb46
              have xx46 := xx45.call hb46
              have xt46 := xt45.call hb46
              have xh46 := xh45.call hb46
              have rrC46 := rrC45.later hb46
              have rrD46 := rrD45.later hb46
              clear fx0 fx1 ft0 ft1 fh0 fh1 hk45 xx45 xt45 xh45 rrC45 rrD45
              obtain ⟨fx0, fx1, _, _⟩ := xx46.two
              obtain ⟨ft0, ft1, _, _⟩ := xt46.two
              obtain ⟨fh0, fh1, _, _⟩ := xh46.two
              go_wp2_with (fail)
              refine ((HB.out _ (hr.later hk46) (hs.later hk46))).mono ?_
              rintro e w47 ⟨rfl, hb47⟩
              have hk47 := bl_call hk46 hb47
              have xx47 := xx46.call hb47
              have xt47 := xt46.call hb47
              have xh47 := xh46.call hb47
              have rrC47 := rrC46.later hb47
              have rrD47 := rrD46.later hb47
              clear fx0 fx1 ft0 ft1 fh0 fh1 hk46 xx46 xt46 xh46 rrC46 rrD46
              obtain ⟨fx0, fx1, _, _⟩ := xx47.two
              obtain ⟨ft0, ft1, _, _⟩ := xt47.two
              obtain ⟨fh0, fh1, _, _⟩ := xh47.two
              have hn48 := bl_alloc (Below.refl w47.heap.size w47) (.cells #[.int .i64 s.1, .int .i64 s.2] 30)
              have y48 : Bx (w47.alloc (.cells #[.int .i64 s.1, .int .i64 s.2] 30)) w47.heap.size 30 #[.int .i64 s.1, .int .i64 s.2] := Bx.new w47 _ _
              have hk48 := bl_call hk47 hn48
              have xx48 := xx47.call hn48
              have xt48 := xt47.call hn48
              have xh48 := xh47.call hn48
              have rrC48 := rrC47.later hn48
              have rrD48 := rrD47.later hn48
              clear fx0 fx1 ft0 ft1 fh0 fh1 hk47 xx47 xt47 xh47 rrC47 rrD47
              clear hn48
              obtain ⟨fx0, fx1, _, _⟩ := xx48.two
              obtain ⟨ft0, ft1, _, _⟩ := xt48.two
              obtain ⟨fh0, fh1, _, _⟩ := xh48.two
              obtain ⟨fs0, fs1, _, _⟩ := y48.two
              go_wp2_with (fail)
              go_ret
              exact ⟨rfl, hk48⟩
end Go.Proofs.Ytgbjglkiaoplmaa
