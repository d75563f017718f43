/- Back of the specification. -/
import Derived.Test.YtjgpfnnokdcgoaaBackZ
import Derived.Test.YtjgpfnnokdcgoaaRcheckP
import Derived.Test.YtjgpfnnokdcgoaaFront
import Derived.Test.YtjgpfnnokdcgoaaNext
namespace Go.Proofs.Ytjgpfnnokdcgoaa
open Go.RowKit Go.Maps

set_option maxRecDepth 100000 in
set_option maxHeartbeats 4000000 in
theorem rBack_c (Z : Int) (A B C : Option Addr) (l : List (Int × Int)) (p : List Int) (M : List (Int × Int)) (c d f : Nat) (w : World) (hlen : l.length ≤ 1000) (hlen' : p.length ≤ 1000) (hcap : p.length ≤ d) (hlenM : M.length ≤ 100000) (hr : Rd w A (cellsP l)) (hs : Rd w B (ints p)) (hm : Rd w C (cellsP M)) :
    Calls Try.prog 35 #[trapV Z A l.length c, .slice B p.length d, .slice C M.length f] w (OutM (backG Z l p M) (planG Z l p M).2.2 w) := by
  obtain ⟨i0, hi, hz0, hz1, hz2⟩ := info_parts int_info
  have x0 := Bx.new w 24 #[.int .i64 Z, .slice A l.length c]
  have hb0 := bl_alloc (Below.refl w.heap.size w) (.cells #[.int .i64 Z, .slice A l.length c] 24)
  generalize hw0 : w.alloc (.cells #[.int .i64 Z, .slice A l.length c] 24) = w0 at *
  have HV := rCheckPlan_c Z A B C l p M c d f w0 hlen hlen' hcap hlenM (hr.later hb0) (hs.later hb0) (hm.later hb0)
  obtain ⟨c0, c1, _⟩ := x0.two
  unfold OutP at HV
  by_cases hE : (planG Z l p M).2.2 = 0
  · obtain ⟨hp, hM4, hR, hG⟩ := planG_ok hE
    have hst := (planR_ok M p 0 hR).1
    have e1 : backG Z l p M = bkR p M := by rw [backG, if_pos hE]
    rw [e1, hE]
    rw [hE] at HV
    have HVV := Lib.hid HV
    have HST := Lib.hid hst
    clear HV hst e1 hE hR hG hp
    generalize (planG Z l p M).1 = F at *
    generalize (planG Z l p M).2.1 = nm at *
    go_enter Try.func35, Try.ntmps35
    go_wp2_with (fail)
    refine HVV.out.mono ?_
    rintro e w1 ⟨A1, c1', rfl, _, hb1⟩
    have hb01 := bl_call hb0 hb1
    have ha0 : Below w1.heap.size w1 (w1.alloc (.cells #[] 3)) := bl_alloc (Below.refl _ _) _
    go_wp2_with (at_builtin; refine wpList_append_any rfl _ _ 25 rfl w1.heap.size 3 i0 _ 8 Try.underlying25 hi hz0 hz1 hz2 rfl _ 0 [] rfl (World.ownsRow_made (e := 3) (size := 1) w1 #[] 0 (Nat.le_refl _) (by decide) rfl) B p d rfl (hs.later (bl_call hb01 ha0)) (by unfold maxLen; omega) (by omega) (by simp) ?_)
    intro A' c' w4 ho hg1
    have hb4 : Below w1.heap.size w1 w4 := ha0.trans (grown_below (World.ownsRow_made (e := 3) (size := 1) w1 #[] 0 (Nat.le_refl _) (by decide) rfl) hg1 (by simp))
    have hb04 := bl_call hb01 hb4
    have hAl := (own_rd ho).1.blk
    have hs14 := hb4.size
    clear hg1 ha0
    go_wp2_with (fail)
    go_loopg [12, 13] M.length (fun gk out iv wr => ∃ k : Nat, Hid (k + gk = M.length) ∧ iv = .int .i64 (k : Int) ∧ wr.ownsRow w1.heap.size 3 1 (.slice A' p.length c') p.length (ints (nowTo p M k)) ∧ wr.ownsRow w4.heap.size 54 2 out k (cellsP (bkR p (M.take k))) ∧ Below w1.heap.size w1 wr ∧ w4.heap.size ≤ wr.heap.size)
    case atStart => exact ⟨0, by simp [Hid], rfl, ho, by simpa [bkR, cellsP] using World.ownsRow_nil w4 w4.heap.size 54 2, hb4, Nat.le_refl _⟩
    case round =>
      obtain ⟨k, HK, rfl, hown, hbk, hb, hs4r⟩ := hrel
      obtain ⟨Ao, co, rfl⟩ := own_form hbk
      have hb0r := bl_call hb01 hb
      have hszr := hb.size
      have hbl := bkR_len (M.take k) p
      rcases gk with _ | gi
      · obtain rfl : k = M.length := HK.out
        rw [List.take_length] at hbk
        go_wp2_with (fail)
        go_ret2
        have hbl := bkR_len M p
        refine ⟨Ao, co, ?_, ?_, hb0r⟩
        · rw [hbl]; rfl
        · rw [hbl]; exact own_base hbk hb04.size
      · have hkl : k < M.length := by have h := HK.out; omega
        have hkl' : (k : Int) < (M.length : Int) := by omega
        rw [List.length_take, Nat.min_eq_left (Nat.le_of_lt hkl)] at hbl
        have HSTk := Lib.hid (HST.out k hkl)
        have HNX := Lib.hid (nowTo_succ (p := p) hkl)
        have HBK := Lib.hid (bkR_succ (p := p) hkl)
        have hnl := nowTo_len p M k
        obtain ⟨bm, om, rfl, _, d0, d1⟩ := (hm.later hb0r).pair hkl
        generalize M.getD k (0, 0) = m at *
        obtain ⟨mi, mt⟩ := m
        simp only [] at d0 d1
        obtain ⟨z1, _, _, _⟩ := moveE_zero HSTk.out
        rw [hnl] at z1
        obtain ⟨i, hi', hil⟩ := zoneOk_nat z1
        simp only [] at hi'
        subst hi'
        have hil' : i < p.length := by omega
        have hbA := bl_alloc (Below.refl wr.heap.size wr) (.cells #[.int .i64 i, .int .i64 mt] 54)
        have xm := Bx.new wr 54 #[.int .i64 i, .int .i64 mt]
        obtain ⟨wA, hwA⟩ : ∃ wA, wA = wr.alloc (.cells #[.int .i64 i, .int .i64 mt] 54) := ⟨_, rfl⟩
        rw [← hwA] at xm hbA
        have hownA := own_call hown hbA
        have hbkA := own_call hbk hbA
        have HNL := Lib.hid hnl
        rw [← hnl] at hownA
        obtain ⟨g, rfl, hg, n0, f0, _⟩ := own_putI hownA (i := i) (by omega) mt
        have hil2 : i < (nowTo p M k).length := by omega
        have HBK3 : Hid (((i : Int), (nowTo p M k).getD i 0) :: bkR p (M.take k) = bkR p (M.take (k + 1))) := HBK.out.symm
        generalize hX : bkR p (M.take k) = X at *
        rw [← hbl] at hbkA
        have hsA : w4.heap.size ≤ wA.heap.size := Nat.le_trans hs4r hbA.size
        generalize (nowTo p M k).getD i 0 = a at *
        obtain ⟨v', w5, hrun, hbk5, hb5⟩ := app_front hbkA (by omega) hsA (i : Int) a
        obtain ⟨A5, c5, rfl⟩ := own_form hbk5
        rw [hbl] at hrun hbk5
        have hne : ints p ≠ [] := by intro h; have := congrArg List.length h; rw [ints_length] at this; simp only [List.length_nil] at this; omega
        have hg4 := hAl _ rfl hne
        simp only [] at hg4
        obtain ⟨g', he, _, n1, f1, hD3⟩ := own_putI (own_call hownA hb5) hil2 mt
        cases he
        have xm5 := xm.call hb5
        have hbk6 := ownsRow_setCell_below hbk5 (a := ⟨g, i, none⟩) hg4 (.int .i64 mt)
        simp only [List.length_set, hnl] at hD3
        have HNX2 : Hid ((nowTo p M k).set i mt = nowTo p M (k + 1)) := HNX.out.symm
        rw [HNX2.out] at hD3
        have hb6 : Below w1.heap.size w1 (w5.setCell ⟨g, i, none⟩ (.int .i64 mt)) := (hb.trans ((hbA.trans (hb5.mono hbA.size)).mono hszr)).setCell (p := ⟨g, i, none⟩) hg _
        have hs46 : w4.heap.size ≤ (w5.setCell ⟨g, i, none⟩ (.int .i64 mt)).heap.size := by rw [World.size_setCell]; exact Nat.le_trans hsA hb5.size
        rw [show ((i : Int), a) :: X = bkR p (M.take (k + 1)) from HBK3.out] at hbk6
        have HREL := Lib.hid (And.intro hD3 (And.intro hbk6 (And.intro hb6 hs46)))
        have HF := Lib.hid (And.intro xm.two (And.intro n0 f0))
        have HW := Lib.hid hwA
        have HRUN := Lib.hid hrun
        clear hD3 hbk5 hbk6 hb6 hs46 hownA hbkA hbk hown n0 f0 hwA HST HSTk HNX HBK HBK3 z1 hrun hX hnl
        go_wp2_with (fail)
        rw [← HW.out]
        obtain ⟨⟨m0, m1, _⟩, n0, f0⟩ := HF.out
        refine wp_cut1 ?_
        apply Exists.intro
        apply Exists.intro
        refine And.intro ?_ ?_
        · go_region_law (refine step_append_runT rfl (.tmp 47) (.tmp 48) 37 37 rfl rfl (.slice (some ⟨wA.heap.size, 0, none⟩) 1 1) (.slice Ao k co) _ w5 (by simp [Act.eval]) (by simp [Act.eval]) HRUN.out ?_)
          all_goals exact ⟨rfl, rfl⟩
        clear m0 m1 n0 f0 HF
        obtain ⟨m0, m1, _⟩ := xm5.two
        clear xm HW hbA
        go_wp2_with (fail)
        go_roundg gi
        case rel => exact ⟨k + 1, by have h := HK.out; show _ = _; omega, by go_num, HREL.out.1, HREL.out.2.1, HREL.out.2.2.1, HREL.out.2.2.2⟩
        case measure => omega
  · have e1 : backG Z l p M = [] := by rw [backG, if_neg hE]
    rw [e1]
    have HVV := Lib.hid HV
    clear HV e1
    generalize (planG Z l p M).1 = F at *
    generalize (planG Z l p M).2.1 = nm at *
    generalize (planG Z l p M).2.2 = te at *
    go_enter Try.func35, Try.ntmps35
    go_wp2_with (fail)
    refine HVV.out.mono ?_
    rintro e w1 ⟨A1, c1', rfl, _, hb1⟩
    go_wp2_with (fail)
    go_ret2
    exact ⟨none, 0, rfl, World.ownsRow_nil _ _ _ _, bl_call hb0 hb1⟩
end Go.Proofs.Ytjgpfnnokdcgoaa
