/- Jobs changed one by one: package clock's. -/
import Derived.Test.YtiffgaelndajpaaChg
namespace Go.Proofs.Ytiffgaelndajpaa
open Go.RowKit

set_option maxRecDepth 100000 in
set_option maxHeartbeats 4000000 in
theorem changedT_c (A : Option Addr) (l : List T3) (c : Nat) (w : World) (hlen : l.length ≤ 1000) (hr : Rd w A (cellsT l)) :
    Calls Try.prog 71 #[.slice A l.length c, .func (.func 72) #[] #[]] w (OutT 40 (chgL (turnJ) l) (chgE (turnJ) l) w) := by
  have HV := Lib.hid (validate_c A l c w hlen hr)
  by_cases hv : validE l = 0
  · have hl := validE_ok.1 hv
    have h8 := hl.len
    have hE : Hid (chgE (turnJ) l = validE (l.map (turnJ))) := by show _ = _; rw [chgE, if_pos hv]
    have hL : Hid (chgL (turnJ) l = if validE (l.map (turnJ)) = 0 then l.map (turnJ) else []) := by show _ = _; rw [chgL, hE.out]
    have HC := fun w1 h => Lib.hid (cloneJ_c A l c w1 hlen h)
    have HLB := Lib.hid (fun k (h : k ≤ l.length) => @mapTo_len (turnJ) l k h)
    have HLS := Lib.hid (fun k (h : k < l.length) => @mapTo_set (turnJ) l k h)
    have HLE := Lib.hid (mapTo_end (turnJ) l)
    have HVM := fun B d w1 h => Lib.hid (validate_c B (l.map (turnJ)) d w1 (by simpa using hlen) h)
    have HML : Hid ((l.map (turnJ)).length = l.length) := List.length_map _
    rw [HML.out] at HVM
    rw [hv] at HV
    clear hv
    go_enter Try.func71, Try.ntmps71
    go_wp2_with (fail)
    refine HV.out.mono ?_
    rintro e w1 ⟨rfl, hb1⟩
    go_wp2_with (fail)
    refine (HC _ (hr.later hb1)).out.mono ?_
    rintro e w2 ⟨A2, c2, rfl, ho2, hb2⟩
    have hb12 := bl_call hb1 hb2
    have ho2 := own_base ho2 hb1.size
    go_wp2_with (fail)
    go_loopg [20] l.length (fun gk iv wr => ∃ k : Nat, Hid (k + gk = l.length) ∧ iv = .int .i64 (k : Int) ∧ wr.ownsRow w.heap.size 40 3 (.slice A2 l.length c2) l.length (cellsT (mapTo (turnJ) l k)) ∧ Below w.heap.size w wr)
    case atStart => exact ⟨0, by simp [Hid], rfl, by rw [mapTo_zero]; exact ho2, hb12⟩
    case round =>
      obtain ⟨k, HK, rfl, hown, hb⟩ := hrel
      rcases gk with _ | gi
      · obtain rfl : k = l.length := HK.out
        rw [HLE.out] at hown
        have HVX := HVM A2 c2 wr (own_rd hown).1
        generalize l.map (turnJ) = M at *
        by_cases hm : validE M = 0
        · have E1 : Hid (chgE (turnJ) l = 0) := by show _ = _; rw [hE.out, hm]
          have E2 : Hid (chgL (turnJ) l = M) := by show _ = _; rw [hL.out, if_pos hm]
          rw [hm] at HVX
          clear hm
          go_wp2_with (fail)
          refine HVX.out.mono ?_
          rintro e w5 ⟨rfl, hb5⟩
          go_wp2_with (fail)
          go_ret2
          exact ⟨A2, c2, by rw [E1.out, E2.out, HML.out]; rfl, by rw [E2.out, HML.out]; exact own_call hown hb5, bl_call hb hb5⟩
        · have E2 : Hid (chgL (turnJ) l = []) := by show _ = _; rw [hL.out, if_neg hm]
          have hm' : (validE M != 0) = true := by simpa using hm
          generalize validE M = v at *
          clear hm
          go_wp2_with (fail)
          refine HVX.out.mono ?_
          rintro e w5 ⟨rfl, hb5⟩
          go_wp2_with (fail)
          go_ret2
          exact ⟨none, 0, by rw [hE.out, E2.out]; rfl, by rw [E2.out]; exact World.ownsRow_nil _ _ _ _, bl_call hb hb5⟩
      · have hkl : k < l.length := by have := HK.out; omega
        have hkl' : (k : Int) < (l.length : Int) := by omega
        have hj := hl.jobs.get hkl
        have j0 := hj.f0
        have j1 := hj.fb
        have j2 := hj.b1
        obtain ⟨b, o, rfl, _, c0, c1, c3⟩ := (hr.later hb).tri hkl
        have HS2 := Lib.hid (HLS.out k hkl)
        have HKL : Hid (k < (mapTo (turnJ) l k).length) := by show _ < _; rw [HLB.out k (by omega)]; exact hkl
        generalize l.getD k t0 = x at *
        obtain ⟨x0, x1, x2⟩ := x
        simp only [] at c0 c1 c3 j0 j1 j2 HS2
        clear hj
        have hba := bl_alloc hb (.cells #[.int .i64 x0, .int .i64 x1, .int .i64 x2] 40)
        have howna := hown.alloc (.cells #[.int .i64 x0, .int .i64 x1, .int .i64 x2] 40)
        have HCL := fun w1 (_ : Below w.heap.size w w1) => Lib.hid (turn1_c x0 x1 x2 w1 j0 j1 j2)
        go_wp2_with (fail)
        refine (HCL _ hba).out.mono ?_
        rintro e w3 ⟨rfl, hb3⟩
        have hown3 := own_call howna hb3
        have hb03 := bl_call hba hb3
        obtain ⟨g, rfl, hbg, hgl, ⟨d0, d1, d3⟩, d4, _⟩ := own_putT (k := k) hown3 (HLB.out k (by omega)) hkl
        have z3 := hown3.frozenAt (k * 3)
        have z4 := hown3.frozenAt (k * 3 + 1)
        have hput := own_put3 hown3 (i := k) HKL.out (turnJ (x0, x1, x2))
        rw [HS2.out] at hput
        have HP := Lib.hid hput
        have hbs := Lib.hid (((hb03.setCell (p := ⟨g, k * 3, none⟩) hbg (.int .i64 (turnJ (x0, x1, x2)).1)).setCell (p := ⟨g, k * 3 + 1, none⟩) hbg (.int .i64 (turnJ (x0, x1, x2)).2.1)).setCell (p := ⟨g, k * 3 + 2, none⟩) hbg (.int .i64 (turnJ (x0, x1, x2)).2.2))
        clear hput HS2 hown howna hown3 HCL c0 c1 c3
        go_wp2_with (fail)
        go_roundg gi
        case rel => exact ⟨k + 1, by have := HK.out; show _ = _; omega, by go_num, HP.out, hbs.out⟩
        case measure => omega
  · have hE : chgE (turnJ) l = validE l := by rw [chgE, if_neg hv]
    have hL : chgL (turnJ) l = [] := by rw [chgL, hE, if_neg hv]
    have hv' : (validE l != 0) = true := by simpa using hv
    rw [hE, hL]
    clear hE hL
    generalize validE l = ev at *
    go_enter Try.func71, Try.ntmps71
    go_wp2_with (fail)
    refine HV.out.mono ?_
    rintro e w1 ⟨rfl, hb1⟩
    go_wp2_with (fail)
    go_ret2
    exact ⟨none, 0, rfl, World.ownsRow_nil _ _ _ _, hb1⟩
set_option maxRecDepth 100000 in
set_option maxHeartbeats 4000000 in
theorem changedS_c (A : Option Addr) (l : List T3) (c : Nat) (B : Nat) (by_ : Int) (w : World) (hlen : l.length ≤ 1000) (hr : Rd w A (cellsT l)) (hB : w.cell? ⟨B, 0, none⟩ = some (.int .i64 by_)) :
    Calls Try.prog 71 #[.slice A l.length c, .func (.func 73) #[] #[.pointer (some ⟨B, 0, none⟩)]] w (OutT 40 (chgL (shJ by_) l) (chgE (shJ by_) l) w) := by
  have HV := Lib.hid (validate_c A l c w hlen hr)
  by_cases hv : validE l = 0
  · have hl := validE_ok.1 hv
    have h8 := hl.len
    have hE : Hid (chgE (shJ by_) l = validE (l.map (shJ by_))) := by show _ = _; rw [chgE, if_pos hv]
    have hL : Hid (chgL (shJ by_) l = if validE (l.map (shJ by_)) = 0 then l.map (shJ by_) else []) := by show _ = _; rw [chgL, hE.out]
    have HC := fun w1 h => Lib.hid (cloneJ_c A l c w1 hlen h)
    have HLB := Lib.hid (fun k (h : k ≤ l.length) => @mapTo_len (shJ by_) l k h)
    have HLS := Lib.hid (fun k (h : k < l.length) => @mapTo_set (shJ by_) l k h)
    have HLE := Lib.hid (mapTo_end (shJ by_) l)
    have HVM := fun B d w1 h => Lib.hid (validate_c B (l.map (shJ by_)) d w1 (by simpa using hlen) h)
    have HML : Hid ((l.map (shJ by_)).length = l.length) := List.length_map _
    rw [HML.out] at HVM
    rw [hv] at HV
    clear hv
    go_enter Try.func71, Try.ntmps71
    go_wp2_with (fail)
    refine HV.out.mono ?_
    rintro e w1 ⟨rfl, hb1⟩
    go_wp2_with (fail)
    refine (HC _ (hr.later hb1)).out.mono ?_
    rintro e w2 ⟨A2, c2, rfl, ho2, hb2⟩
    have hb12 := bl_call hb1 hb2
    have ho2 := own_base ho2 hb1.size
    go_wp2_with (fail)
    go_loopg [20] l.length (fun gk iv wr => ∃ k : Nat, Hid (k + gk = l.length) ∧ iv = .int .i64 (k : Int) ∧ wr.ownsRow w.heap.size 40 3 (.slice A2 l.length c2) l.length (cellsT (mapTo (shJ by_) l k)) ∧ Below w.heap.size w wr)
    case atStart => exact ⟨0, by simp [Hid], rfl, by rw [mapTo_zero]; exact ho2, hb12⟩
    case round =>
      obtain ⟨k, HK, rfl, hown, hb⟩ := hrel
      rcases gk with _ | gi
      · obtain rfl : k = l.length := HK.out
        rw [HLE.out] at hown
        have HVX := HVM A2 c2 wr (own_rd hown).1
        generalize l.map (shJ by_) = M at *
        by_cases hm : validE M = 0
        · have E1 : Hid (chgE (shJ by_) l = 0) := by show _ = _; rw [hE.out, hm]
          have E2 : Hid (chgL (shJ by_) l = M) := by show _ = _; rw [hL.out, if_pos hm]
          rw [hm] at HVX
          clear hm
          go_wp2_with (fail)
          refine HVX.out.mono ?_
          rintro e w5 ⟨rfl, hb5⟩
          go_wp2_with (fail)
          go_ret2
          exact ⟨A2, c2, by rw [E1.out, E2.out, HML.out]; rfl, by rw [E2.out, HML.out]; exact own_call hown hb5, bl_call hb hb5⟩
        · have E2 : Hid (chgL (shJ by_) l = []) := by show _ = _; rw [hL.out, if_neg hm]
          have hm' : (validE M != 0) = true := by simpa using hm
          generalize validE M = v at *
          clear hm
          go_wp2_with (fail)
          refine HVX.out.mono ?_
          rintro e w5 ⟨rfl, hb5⟩
          go_wp2_with (fail)
          go_ret2
          exact ⟨none, 0, by rw [hE.out, E2.out]; rfl, by rw [E2.out]; exact World.ownsRow_nil _ _ _ _, bl_call hb hb5⟩
      · have hkl : k < l.length := by have := HK.out; omega
        have hkl' : (k : Int) < (l.length : Int) := by omega
        have hj := hl.jobs.get hkl
        have j0 := hj.f0
        have j1 := hj.fb
        have j2 := hj.b1
        obtain ⟨b, o, rfl, _, c0, c1, c3⟩ := (hr.later hb).tri hkl
        have HS2 := Lib.hid (HLS.out k hkl)
        have HKL : Hid (k < (mapTo (shJ by_) l k).length) := by show _ < _; rw [HLB.out k (by omega)]; exact hkl
        generalize l.getD k t0 = x at *
        obtain ⟨x0, x1, x2⟩ := x
        simp only [] at c0 c1 c3 j0 j1 j2 HS2
        clear hj
        have hba := bl_alloc hb (.cells #[.int .i64 x0, .int .i64 x1, .int .i64 x2] 40)
        have howna := hown.alloc (.cells #[.int .i64 x0, .int .i64 x1, .int .i64 x2] 40)
        have HCL := fun w1 (h : Below w.heap.size w w1) => Lib.hid (shift1_c B by_ x0 x1 x2 w1 ((h.cell (p := ⟨B, 0, none⟩) (World.block_lt_of_cell? w ⟨B, 0, none⟩ hB)).trans hB))
        go_wp2_with (fail)
        refine (HCL _ hba).out.mono ?_
        rintro e w3 ⟨rfl, hb3⟩
        have hown3 := own_call howna hb3
        have hb03 := bl_call hba hb3
        obtain ⟨g, rfl, hbg, hgl, ⟨d0, d1, d3⟩, d4, _⟩ := own_putT (k := k) hown3 (HLB.out k (by omega)) hkl
        have z3 := hown3.frozenAt (k * 3)
        have z4 := hown3.frozenAt (k * 3 + 1)
        have hput := own_put3 hown3 (i := k) HKL.out (shJ by_ (x0, x1, x2))
        rw [HS2.out] at hput
        have HP := Lib.hid hput
        have hbs := Lib.hid (((hb03.setCell (p := ⟨g, k * 3, none⟩) hbg (.int .i64 (shJ by_ (x0, x1, x2)).1)).setCell (p := ⟨g, k * 3 + 1, none⟩) hbg (.int .i64 (shJ by_ (x0, x1, x2)).2.1)).setCell (p := ⟨g, k * 3 + 2, none⟩) hbg (.int .i64 (shJ by_ (x0, x1, x2)).2.2))
        clear hput HS2 hown howna hown3 HCL c0 c1 c3
        go_wp2_with (fail)
        go_roundg gi
        case rel => exact ⟨k + 1, by have := HK.out; show _ = _; omega, by go_num, HP.out, hbs.out⟩
        case measure => omega
  · have hE : chgE (shJ by_) l = validE l := by rw [chgE, if_neg hv]
    have hL : chgL (shJ by_) l = [] := by rw [chgL, hE, if_neg hv]
    have hv' : (validE l != 0) = true := by simpa using hv
    rw [hE, hL]
    clear hE hL
    generalize validE l = ev at *
    go_enter Try.func71, Try.ntmps71
    go_wp2_with (fail)
    refine HV.out.mono ?_
    rintro e w1 ⟨rfl, hb1⟩
    go_wp2_with (fail)
    go_ret2
    exact ⟨none, 0, rfl, World.ownsRow_nil _ _ _ _, hb1⟩
set_option maxRecDepth 100000 in
set_option maxHeartbeats 4000000 in
theorem changedR_c (A : Option Addr) (l : List T3) (c : Nat) (B : Nat) (by_ : Int) (w : World) (hlen : l.length ≤ 1000) (hr : Rd w A (cellsT l)) (hB : w.cell? ⟨B, 0, none⟩ = some (.int .i64 by_)) :
    Calls Try.prog 71 #[.slice A l.length c, .func (.func 75) #[] #[.pointer (some ⟨B, 0, none⟩)]] w (OutT 40 (chgL (rlJ by_) l) (chgE (rlJ by_) l) w) := by
  have HV := Lib.hid (validate_c A l c w hlen hr)
  by_cases hv : validE l = 0
  · have hl := validE_ok.1 hv
    have h8 := hl.len
    have hE : Hid (chgE (rlJ by_) l = validE (l.map (rlJ by_))) := by show _ = _; rw [chgE, if_pos hv]
    have hL : Hid (chgL (rlJ by_) l = if validE (l.map (rlJ by_)) = 0 then l.map (rlJ by_) else []) := by show _ = _; rw [chgL, hE.out]
    have HC := fun w1 h => Lib.hid (cloneJ_c A l c w1 hlen h)
    have HLB := Lib.hid (fun k (h : k ≤ l.length) => @mapTo_len (rlJ by_) l k h)
    have HLS := Lib.hid (fun k (h : k < l.length) => @mapTo_set (rlJ by_) l k h)
    have HLE := Lib.hid (mapTo_end (rlJ by_) l)
    have HVM := fun B d w1 h => Lib.hid (validate_c B (l.map (rlJ by_)) d w1 (by simpa using hlen) h)
    have HML : Hid ((l.map (rlJ by_)).length = l.length) := List.length_map _
    rw [HML.out] at HVM
    rw [hv] at HV
    clear hv
    go_enter Try.func71, Try.ntmps71
    go_wp2_with (fail)
    refine HV.out.mono ?_
    rintro e w1 ⟨rfl, hb1⟩
    go_wp2_with (fail)
    refine (HC _ (hr.later hb1)).out.mono ?_
    rintro e w2 ⟨A2, c2, rfl, ho2, hb2⟩
    have hb12 := bl_call hb1 hb2
    have ho2 := own_base ho2 hb1.size
    go_wp2_with (fail)
    go_loopg [20] l.length (fun gk iv wr => ∃ k : Nat, Hid (k + gk = l.length) ∧ iv = .int .i64 (k : Int) ∧ wr.ownsRow w.heap.size 40 3 (.slice A2 l.length c2) l.length (cellsT (mapTo (rlJ by_) l k)) ∧ Below w.heap.size w wr)
    case atStart => exact ⟨0, by simp [Hid], rfl, by rw [mapTo_zero]; exact ho2, hb12⟩
    case round =>
      obtain ⟨k, HK, rfl, hown, hb⟩ := hrel
      rcases gk with _ | gi
      · obtain rfl : k = l.length := HK.out
        rw [HLE.out] at hown
        have HVX := HVM A2 c2 wr (own_rd hown).1
        generalize l.map (rlJ by_) = M at *
        by_cases hm : validE M = 0
        · have E1 : Hid (chgE (rlJ by_) l = 0) := by show _ = _; rw [hE.out, hm]
          have E2 : Hid (chgL (rlJ by_) l = M) := by show _ = _; rw [hL.out, if_pos hm]
          rw [hm] at HVX
          clear hm
          go_wp2_with (fail)
          refine HVX.out.mono ?_
          rintro e w5 ⟨rfl, hb5⟩
          go_wp2_with (fail)
          go_ret2
          exact ⟨A2, c2, by rw [E1.out, E2.out, HML.out]; rfl, by rw [E2.out, HML.out]; exact own_call hown hb5, bl_call hb hb5⟩
        · have E2 : Hid (chgL (rlJ by_) l = []) := by show _ = _; rw [hL.out, if_neg hm]
          have hm' : (validE M != 0) = true := by simpa using hm
          generalize validE M = v at *
          clear hm
          go_wp2_with (fail)
          refine HVX.out.mono ?_
          rintro e w5 ⟨rfl, hb5⟩
          go_wp2_with (fail)
          go_ret2
          exact ⟨none, 0, by rw [hE.out, E2.out]; rfl, by rw [E2.out]; exact World.ownsRow_nil _ _ _ _, bl_call hb hb5⟩
      · have hkl : k < l.length := by have := HK.out; omega
        have hkl' : (k : Int) < (l.length : Int) := by omega
        have hj := hl.jobs.get hkl
        have j0 := hj.f0
        have j1 := hj.fb
        have j2 := hj.b1
        obtain ⟨b, o, rfl, _, c0, c1, c3⟩ := (hr.later hb).tri hkl
        have HS2 := Lib.hid (HLS.out k hkl)
        have HKL : Hid (k < (mapTo (rlJ by_) l k).length) := by show _ < _; rw [HLB.out k (by omega)]; exact hkl
        generalize l.getD k t0 = x at *
        obtain ⟨x0, x1, x2⟩ := x
        simp only [] at c0 c1 c3 j0 j1 j2 HS2
        clear hj
        have hba := bl_alloc hb (.cells #[.int .i64 x0, .int .i64 x1, .int .i64 x2] 40)
        have howna := hown.alloc (.cells #[.int .i64 x0, .int .i64 x1, .int .i64 x2] 40)
        have HCL := fun w1 (h : Below w.heap.size w w1) => Lib.hid (relax1_c B by_ x0 x1 x2 w1 ((h.cell (p := ⟨B, 0, none⟩) (World.block_lt_of_cell? w ⟨B, 0, none⟩ hB)).trans hB))
        go_wp2_with (fail)
        refine (HCL _ hba).out.mono ?_
        rintro e w3 ⟨rfl, hb3⟩
        have hown3 := own_call howna hb3
        have hb03 := bl_call hba hb3
        obtain ⟨g, rfl, hbg, hgl, ⟨d0, d1, d3⟩, d4, _⟩ := own_putT (k := k) hown3 (HLB.out k (by omega)) hkl
        have z3 := hown3.frozenAt (k * 3)
        have z4 := hown3.frozenAt (k * 3 + 1)
        have hput := own_put3 hown3 (i := k) HKL.out (rlJ by_ (x0, x1, x2))
        rw [HS2.out] at hput
        have HP := Lib.hid hput
        have hbs := Lib.hid (((hb03.setCell (p := ⟨g, k * 3, none⟩) hbg (.int .i64 (rlJ by_ (x0, x1, x2)).1)).setCell (p := ⟨g, k * 3 + 1, none⟩) hbg (.int .i64 (rlJ by_ (x0, x1, x2)).2.1)).setCell (p := ⟨g, k * 3 + 2, none⟩) hbg (.int .i64 (rlJ by_ (x0, x1, x2)).2.2))
        clear hput HS2 hown howna hown3 HCL c0 c1 c3
        go_wp2_with (fail)
        go_roundg gi
        case rel => exact ⟨k + 1, by have := HK.out; show _ = _; omega, by go_num, HP.out, hbs.out⟩
        case measure => omega
  · have hE : chgE (rlJ by_) l = validE l := by rw [chgE, if_neg hv]
    have hL : chgL (rlJ by_) l = [] := by rw [chgL, hE, if_neg hv]
    have hv' : (validE l != 0) = true := by simpa using hv
    rw [hE, hL]
    clear hE hL
    generalize validE l = ev at *
    go_enter Try.func71, Try.ntmps71
    go_wp2_with (fail)
    refine HV.out.mono ?_
    rintro e w1 ⟨rfl, hb1⟩
    go_wp2_with (fail)
    go_ret2
    exact ⟨none, 0, rfl, World.ownsRow_nil _ _ _ _, hb1⟩
end Go.Proofs.Ytiffgaelndajpaa
