/- Back of package zone. -/
import Derived.Test.YtjgpfnnokdcgoaaBackL
import Derived.Test.YtjgpfnnokdcgoaaRowM
import Derived.StillTailTactics
import Derived.OneCell
namespace Go.Proofs.Ytjgpfnnokdcgoaa
open Go.RowKit Go.Maps

set_option maxRecDepth 100000 in
set_option maxHeartbeats 4000000 in
theorem Back_c (Z : Int) (A B C : Option Addr) (l : List (Int × Int)) (p : List Int) (M : List (Int × Int)) (c d f : Nat) (w : World) (hlen : l.length ≤ 1000) (hlen' : p.length ≤ 1000) (hlenM : M.length ≤ 100000) (hr : Rd w A (cellsP l)) (hs : Rd w B (ints p)) (hm : Rd w C (cellsP M)) :
    Calls Try.prog 34 #[trapV Z A l.length c, .slice B p.length d, .slice C M.length f] w (OutM (backG Z l p M) (planG Z l p M).2.2 w) := by
  have x0 := Bx.new w 24 #[.int .i64 Z, .slice A l.length c]
  have hb0 := bl_alloc (Below.refl w.heap.size w) (.cells #[.int .i64 Z, .slice A l.length c] 24)
  generalize hw0 : w.alloc (.cells #[.int .i64 Z, .slice A l.length c] 24) = w0 at *
  have HV := CheckPlan_c Z A B C l p M c d f w0 hlen hlen' hlenM (hr.later hb0) (hs.later hb0) (hm.later hb0)
  obtain ⟨c0, c1, _⟩ := x0.two
  unfold OutP at HV
  by_cases hE : (planG Z l p M).2.2 = 0
  · obtain ⟨hp, hM4, hR, hG⟩ := planG_ok hE
    have hst := (planR_ok M p 0 hR).1
    have e1 : backG Z l p M = bkR p M := by rw [backG, if_pos hE]
    rw [e1, hE]
    rw [hE] at HV
    have HVV := Lib.hid HV
    have HST := Lib.hid hst
    have HC := fun w1 h => Lib.hid (cloneI_c B p d w1 hlen' h)
    have hM' : (M.length : Int) ≤ 400 := by omega
    clear HV hst e1 hE hR hG hp
    generalize (planG Z l p M).1 = F at *
    generalize (planG Z l p M).2.1 = nm at *
    go_enter Try.func34, Try.ntmps34
    go_wp2_with (fail)
    refine HVV.out.mono ?_
    rintro e w1 ⟨A1, c1', rfl, _, hb1⟩
    have hb01 := bl_call hb0 hb1
    go_wp2_with (fail)
    refine (HC _ (hs.later hb01)).out.mono ?_
    rintro e w4 ⟨A', c', rfl, ho, hb4⟩
    have hb04 := bl_call hb01 hb4
    obtain ⟨w5, hmk, hob, hg5⟩ := made_moves M.length (by omega) w4
    have hb5 : Below w4.heap.size w4 w5 := (Below.refl _ _).grown hg5 (Nat.le_refl _) (fun k hk => by cases hk)
    have ho5 := own_call ho hb5
    have hAl := (own_rd ho).1.blk
    have hs14 := hb4.size
    rw [List.length_replicate] at hob
    go_wp2_with (fail)
    go_loopg [33] M.length (fun gk iv wr => ∃ k : Nat, Hid (k + gk = M.length) ∧ iv = .int .i64 (k : Int) ∧ wr.ownsRow w1.heap.size 3 1 (.slice A' p.length c') p.length (ints (nowTo p M k)) ∧ wr.ownsRow w4.heap.size 54 2 (.slice (some ⟨w4.heap.size, 0, none⟩) M.length M.length) M.length (cellsP (List.replicate gk (0, 0) ++ bkR p (M.take k))) ∧ Below w1.heap.size w1 wr)
    case atStart => exact ⟨0, by simp [Hid], rfl, ho5, by simpa [bkR] using hob, hb4.trans (hb5.mono hs14)⟩
    case round =>
      obtain ⟨k, HK, rfl, hown, hbk, hb⟩ := hrel
      have hb0r := bl_call hb01 hb
      have hszr := hb.size
      rcases gk with _ | gi
      · obtain rfl : k = M.length := HK.out
        rw [List.take_length, List.replicate_zero, List.nil_append] at hbk
        go_wp2_with (fail)
        go_ret2
        have hbl := bkR_len M p
        refine ⟨some ⟨w4.heap.size, 0, none⟩, M.length, ?_, ?_, hb0r⟩
        · rw [hbl]; rfl
        · rw [hbl]; exact own_base hbk hb04.size
      · have hkl : k < M.length := by have h := HK.out; omega
        have hkl' : (k : Int) < (M.length : Int) := by omega
        have HSTk := Lib.hid (HST.out k hkl)
        have HNX := Lib.hid (nowTo_succ (p := p) hkl)
        have HBK := Lib.hid (bkR_succ (p := p) hkl)
        have hnl := nowTo_len p M k
        obtain ⟨bm, om, rfl, _, d0, d1⟩ := (hm.later hb0r).pair hkl
        generalize M.getD k (0, 0) = m at *
        obtain ⟨mi, mt⟩ := m
        simp only [] at d0 d1
        obtain ⟨z1, _, _, _⟩ := moveE_zero HSTk.out
        rw [hnl] at z1
        obtain ⟨i, hi, hil⟩ := zoneOk_nat z1
        simp only [] at hi
        subst hi
        have hil' : i < p.length := by omega
        have hgi : (M.length : Int) = (k : Int) + gi + 1 := by have h := HK.out; omega
        have hbA := bl_alloc (Below.refl wr.heap.size wr) (.cells #[.int .i64 i, .int .i64 mt] 54)
        have xm := Bx.new wr 54 #[.int .i64 i, .int .i64 mt]
        obtain ⟨wA, hwA⟩ : ∃ wA, wA = wr.alloc (.cells #[.int .i64 i, .int .i64 mt] 54) := ⟨_, rfl⟩
        rw [← hwA] at xm hbA
        have hownA := own_call hown hbA
        have hbkA := own_call hbk hbA
        have HNL := Lib.hid hnl
        rw [← hnl] at hownA
        obtain ⟨g, rfl, hg, n0, f0, _⟩ := own_putI hownA (i := i) (by omega) mt
        have hil2 : i < (nowTo p M k).length := by omega
        have hne : ints p ≠ [] := by intro h; have := congrArg List.length h; rw [ints_length] at this; simp only [List.length_nil] at this; omega
        have hg4 := hAl _ rfl hne
        simp only [] at hg4
        have hLl : (List.replicate (gi + 1) ((0 : Int), (0 : Int)) ++ bkR p (M.take k)).length = M.length := by rw [List.length_append, List.length_replicate, bkR_len, List.length_take]; omega
        have HBK2 : Hid ((List.replicate (gi + 1) ((0 : Int), (0 : Int)) ++ bkR p (M.take k)).set gi ((i : Int), (nowTo p M k).getD i 0) = List.replicate gi (0, 0) ++ bkR p (M.take (k + 1))) := by show _ = _; rw [set_last, HBK.out]; rfl
        have hgLl : gi < (List.replicate (gi + 1) ((0 : Int), (0 : Int)) ++ bkR p (M.take k)).length := by omega
        have hIx : (M.length : Int) - 1 - (k : Int) = (gi : Int) := by omega
        have hbkD : wA.drew.ownsRow w4.heap.size 54 2 (.slice (some ⟨w4.heap.size, 0, none⟩) (List.replicate (gi + 1) ((0 : Int), (0 : Int)) ++ bkR p (M.take k)).length M.length) (List.replicate (gi + 1) ((0 : Int), (0 : Int)) ++ bkR p (M.take k)).length (cellsP (List.replicate (gi + 1) ((0 : Int), (0 : Int)) ++ bkR p (M.take k))) := by rw [hLl]; exact hbkA
        generalize List.replicate (gi + 1) ((0 : Int), (0 : Int)) ++ bkR p (M.take k) = L at *
        have hownD : wA.drew.ownsRow w1.heap.size 3 1 (.slice (some ⟨g, 0, none⟩) (nowTo p M k).length c') (nowTo p M k).length (ints (nowTo p M k)) := hownA
        have xmD : Bx wA.drew wr.heap.size 54 #[.int .i64 i, .int .i64 mt] := xm
        have hbD : Below wr.heap.size wr wA.drew := hbA.drew
        generalize (nowTo p M k).getD i 0 = a at *
        obtain ⟨gb, he, hgb, hgbl, ⟨q0, q1⟩, ⟨r0, r1⟩, hbk2⟩ := own_putM hbkD hgLl (i : Int) a
        cases he
        have hw4r := (own_rd hbk).1.blk _ rfl (by intro h; have := congrArg List.length h; rw [cellsP_length] at this; simp only [List.length_nil] at this; omega)
        simp only [] at hw4r
        have hgne : g ≠ w4.heap.size := by omega
        have hD1 := ownsRow_setCell_other hownD (a := ⟨w4.heap.size, gi * 2, none⟩) (by simp [Value.ownBlock]; exact hgne) (.int .i64 i)
        have hD2 := ownsRow_setCell_other hD1 (a := ⟨w4.heap.size, gi * 2 + 1, none⟩) (by simp [Value.ownBlock]; exact hgne) (.int .i64 a)
        obtain ⟨g', he, _, n1, f1, hD3⟩ := own_putI hD2 hil2 mt
        cases he
        have hbk3 := ownsRow_setCell_other hbk2 (a := ⟨g, i, none⟩) (by simp [Value.ownBlock]; exact fun e => hgne e.symm) (.int .i64 mt)
        have xm6 := (xmD.far (g' := w4.heap.size) (i := gi * 2) (by omega) (.int .i64 i)).far (g' := w4.heap.size) (i := gi * 2 + 1) (by omega) (.int .i64 a)
        have hb6 : Below w1.heap.size w1 ((((wA.drew.setCell ⟨w4.heap.size, gi * 2, none⟩ (.int .i64 i)).setCell ⟨w4.heap.size, gi * 2 + 1, none⟩ (.int .i64 a))).setCell ⟨g, i, none⟩ (.int .i64 mt)) := (((hb.trans (hbD.mono hszr)).setCell (p := ⟨w4.heap.size, gi * 2, none⟩) hs14 _).setCell (p := ⟨w4.heap.size, gi * 2 + 1, none⟩) hs14 _).setCell (p := ⟨g, i, none⟩) hg _
        rw [hLl, HBK2.out] at hbk3
        simp only [List.length_set, hnl] at hD3
        have HNX2 : Hid ((nowTo p M k).set i mt = nowTo p M (k + 1)) := HNX.out.symm
        rw [HNX2.out] at hD3
        have HREL := Lib.hid (And.intro hD3 (And.intro hbk3 hb6))
        have HF := Lib.hid (And.intro xm.two (And.intro n0 f0))
        have HW := Lib.hid hwA
        have hu1 : IntKind.i64.wrap ((M.length : Int) - 1) = (M.length : Int) - 1 := by simp [IntKind.wrap, IntKind.bits, IntKind.signed]; omega
        have hu2 : IntKind.i64.wrap (gi : Int) = (gi : Int) := by simp [IntKind.wrap, IntKind.bits, IntKind.signed]; omega
        have hgM : (gi : Int) < (M.length : Int) := by omega
        clear hgi hD1 hD2 hD3 hbk2 hbk3 hb6 hownD hbkD hownA hbkA hbk hown n0 f0 hwA xmD HST HSTk HNX HBK z1
        go_wp2_with (fail)
        rw [← HW.out]
        obtain ⟨⟨m0, m1, _⟩, n0, f0⟩ := HF.out
        go_still_tail 15, (by kernel_rfl)
        change wpList _ _ _ _ _ wA.drew
        clear m0 m1 n0 f0 HF
        obtain ⟨m0, m1, _⟩ := xm6.two
        clear xm xm6 HW hbA
        generalize wA.drew = wd at *
        go_wp2_with (fail)
        go_roundg gi
        case rel => exact ⟨k + 1, by have h := HK.out; show _ = _; omega, by go_num, HREL.out.1, HREL.out.2.1, HREL.out.2.2⟩
        case measure => omega
  · have e1 : backG Z l p M = [] := by rw [backG, if_neg hE]
    rw [e1]
    have HVV := Lib.hid HV
    clear HV e1
    generalize (planG Z l p M).1 = F at *
    generalize (planG Z l p M).2.1 = nm at *
    generalize (planG Z l p M).2.2 = te at *
    go_enter Try.func34, Try.ntmps34
    go_wp2_with (fail)
    refine HVV.out.mono ?_
    rintro e w1 ⟨A1, c1', rfl, _, hb1⟩
    go_wp2_with (fail)
    go_ret2
    exact ⟨none, 0, rfl, World.ownsRow_nil _ _ _ _, bl_call hb0 hb1⟩
end Go.Proofs.Ytjgpfnnokdcgoaa
