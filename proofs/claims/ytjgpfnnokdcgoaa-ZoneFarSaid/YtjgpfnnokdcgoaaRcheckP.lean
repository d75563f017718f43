/- CheckPlan of the specification. -/
import Derived.Test.YtjgpfnnokdcgoaaCheckP
import Derived.Test.YtjgpfnnokdcgoaaApp
import Derived.Test.YtjgpfnnokdcgoaaFree
import Derived.StillTailTactics
namespace Go.Proofs.Ytjgpfnnokdcgoaa
open Go.RowKit Go.Maps

theorem move_cases (len Z mi mt : Int) : mi < 0 ∨ (¬ mi < 0 ∧ mi ≥ len) ∨ (¬ mi < 0 ∧ ¬ mi ≥ len ∧ mt < 0) ∨ (¬ mi < 0 ∧ ¬ mi ≥ len ∧ ¬ mt < 0 ∧ mt ≥ Z) ∨ (¬ mi < 0 ∧ ¬ mi ≥ len ∧ ¬ mt < 0 ∧ ¬ mt ≥ Z) := by omega
theorem moveE_four {l : List (Int × Int)} {Z : Int} {p : List Int} {mi mt : Int} (h : mi < 0 ∨ mi ≥ (p.length : Int) ∨ mt < 0 ∨ mt ≥ Z) : moveE l Z p (mi, mt) = 4 := by
  have : (zoneOk p.length mi && zoneOk Z mt) = false := by simp [zoneOk]; omega
  rw [moveE, this]; rfl

set_option maxRecDepth 100000 in
set_option maxHeartbeats 4000000 in
theorem rCheckPlan_c (Z : Int) (A B C : Option Addr) (l : List (Int × Int)) (p : List Int) (M : List (Int × Int)) (c d f : Nat) (w : World) (hlen : l.length ≤ 1000) (hlen' : p.length ≤ 1000) (hcap : p.length ≤ d) (hlenM : M.length ≤ 100000) (hr : Rd w A (cellsP l)) (hs : Rd w B (ints p)) (hm : Rd w C (cellsP M)) :
    Calls Try.prog 33 #[trapV Z A l.length c, .slice B p.length d, .slice C M.length f] w (OutP (planG Z l p M) w) := by
  obtain ⟨i0, hi, hz0, hz1, hz2⟩ := info_parts int_info
  have x0 := Bx.new w 24 #[.int .i64 Z, .slice A l.length c]
  have hb0 := bl_alloc (Below.refl w.heap.size w) (.cells #[.int .i64 Z, .slice A l.length c] 24)
  generalize hw0 : w.alloc (.cells #[.int .i64 Z, .slice A l.length c] 24) = w0 at *
  have HV := Lib.hid (rplace_c Z A B l p c d w0 hlen hlen' hcap (hr.later hb0) (hs.later hb0))
  obtain ⟨c0, c1, _⟩ := x0.two
  by_cases hp : placeE Z l p = 0
  · by_cases hM : M.length ≤ 400
    · obtain ⟨ht, hp4, hin, hnd⟩ := placeE_zero hp
      obtain ⟨n, rfl, hn1, hn6⟩ := trap_nat ht
      have hl36 := trap_len ht
      have e1 : planG n l p M = planR l n p 0 M := by rw [planG, if_pos hp, if_pos hM]
      rw [e1]
      rw [hp] at HV
      have HLK := fun a b w1 h => Lib.hid (rlinked_c n A l c a b w1 hlen h)
      have hM' : ¬ (M.length : Int) > 400 := by omega
      clear e1 hp hnd ht
      go_enter Try.func33, Try.ntmps33
      go_wp2_with (fail)
      refine HV.out.mono ?_
      rintro e w1 ⟨rfl, hb1⟩
      have hb01 := bl_call hb0 hb1
      have x1 := x0.call hb1
      clear c0 c1
      obtain ⟨c0, c1, _⟩ := x1.two
      have ha0 : Below w1.heap.size w1 (w1.alloc (.cells #[] 3)) := bl_alloc (Below.refl _ _) _
      go_wp2_with (at_builtin; refine wpList_append_any rfl _ _ 25 rfl w1.heap.size 3 i0 _ 8 Try.underlying25 hi hz0 hz1 hz2 rfl _ 0 [] rfl (World.ownsRow_made (e := 3) (size := 1) w1 #[] 0 (Nat.le_refl _) (by decide) rfl) B p d rfl (hs.later (bl_call hb01 ha0)) (by unfold maxLen; omega) (by omega) (by simp) ?_)
      intro A' c' w4 ho hg1
      have hb4 : Below w1.heap.size w1 w4 := ha0.trans (grown_below (World.ownsRow_made (e := 3) (size := 1) w1 #[] 0 (Nat.le_refl _) (by decide) rfl) hg1 (by simp))
      clear hg1 ha0
      go_wp2_with (fail)
      go_loopg [11] M.length (fun gk iv wr => ∃ (k : Nat) (now : List Int), Hid (k + gk = M.length) ∧ iv = .int .i64 (k : Int) ∧ wr.ownsRow w1.heap.size 3 1 (.slice A' p.length c') p.length (ints now) ∧ Hid (now.length = p.length) ∧ (∀ x ∈ now, 0 ≤ x ∧ x < (n : Int)) ∧ Hid (planR l n now k (M.drop k) = planR l n p 0 M) ∧ Below w1.heap.size w1 wr)
      case atStart => exact ⟨0, p, by simp [Hid], rfl, ho, by simp [Hid], hin, by simp [Hid], hb4⟩
      case round =>
        obtain ⟨k, now, HK, rfl, hown, HNL, hnow, HPL, hb⟩ := hrel
        have hb0r := bl_call hb01 hb
        have hszr := hb.size
        rcases gk with _ | gi
        · obtain rfl : k = M.length := HK.out
          have hpl := HPL.out
          rw [planR_done] at hpl
          have HPL2 := Lib.hid hpl
          clear hpl
          go_wp2_with (fail)
          go_ret3
          rw [← HPL2.out]
          have hnl := HNL.out
          rw [← hnl] at hown
          refine ⟨A', c', ?_, own_base hown hb01.size, hb0r⟩
          show _ = Ending.returned (.tuple #[.slice A' now.length c', _, _])
          rw [hnl]
          rfl
        · have hkl : k < M.length := by have h := HK.out; omega
          have hkl' : (k : Int) < (M.length : Int) := by omega
          obtain ⟨bm, om, rfl, _, d0, d1⟩ := (hm.later hb0r).pair hkl
          have hst := planR_step (l := l) (Z := n) (p := now) hkl
          generalize M.getD k (0, 0) = m at *
          obtain ⟨mi, mt⟩ := m
          simp only [] at d0 d1
          have HST : Hid ((if moveE l n now (mi, mt) = 0 then planR l n (nx now (mi, mt)) (k + 1) (M.drop (k + 1)) else ([], k, moveE l n now (mi, mt))) = planR l n p 0 M) := by show _ = _; rw [← hst]; exact HPL.out
          clear hst
          have hbA := bl_alloc (Below.refl wr.heap.size wr) (.cells #[.int .i64 mi, .int .i64 mt] 54)
          have xm := Bx.new wr 54 #[.int .i64 mi, .int .i64 mt]
          have x1r := x1.call hb
          have H4 : (mi < 0 ∨ mi ≥ (now.length : Int) ∨ mt < 0 ∨ mt ≥ (n : Int)) → Hid (([], k, 4) = planR l n p 0 M) := fun h => by
            have h2 := HST.out
            rw [moveE_four h] at h2
            exact h2
          have HNL' := HNL.out
          rw [HNL'] at H4
          clear HNL' c0 c1
          have x1A := x1r.alloc (.cells #[.int .i64 mi, .int .i64 mt] 54)
          obtain ⟨c0, c1, _⟩ := x1A.two
          rcases move_cases p.length n mi mt with q1 | ⟨q1, q2⟩ | ⟨q1, q2, q3⟩ | ⟨q1, q2, q3, q4⟩ | ⟨q1, q2, q3, q4⟩
          · have H := H4 (.inl q1)
            clear H4 HST
            go_wp2_with (fail)
            go_ret3
            rw [← H.out]
            exact ⟨none, 0, rfl, World.ownsRow_nil _ _ _ _, bl_call hb0r hbA⟩
          · have H := H4 (.inr (.inl q2))
            clear H4 HST
            go_wp2_with (fail)
            go_ret3
            rw [← H.out]
            exact ⟨none, 0, rfl, World.ownsRow_nil _ _ _ _, bl_call hb0r hbA⟩
          · have H := H4 (.inr (.inr (.inl q3)))
            clear H4 HST
            go_wp2_with (fail)
            go_ret3
            rw [← H.out]
            exact ⟨none, 0, rfl, World.ownsRow_nil _ _ _ _, bl_call hb0r hbA⟩
          · have H := H4 (.inr (.inr (.inr q4)))
            clear H4 HST
            go_wp2_with (fail)
            go_ret3
            rw [← H.out]
            exact ⟨none, 0, rfl, World.ownsRow_nil _ _ _ _, bl_call hb0r hbA⟩
          · obtain ⟨i, rfl⟩ := Int.eq_ofNat_of_zero_le (by omega : 0 ≤ mi)
            have hil' : i < now.length := by have := HNL.out; omega
            have HME : moveE l n now ((i : Int), mt) = if linkB l (now.getD i 0) mt then (if now.contains mt then 6 else 0) else 8 := by
              have z1 : zoneOk now.length (i : Int) = true := zoneOk_iff.2 ⟨by omega, by omega⟩
              have z2 : zoneOk n mt = true := zoneOk_iff.2 ⟨by omega, by omega⟩
              simp [moveE, z1, z2]
            have z2 : zoneOk n mt = true := zoneOk_iff.2 ⟨by omega, by omega⟩
            have hownA : (wr.alloc (.cells #[.int .i64 i, .int .i64 mt] 54)).ownsRow w1.heap.size 3 1 (.slice A' now.length c') now.length (ints now) := by rw [HNL.out]; exact own_call hown hbA
            obtain ⟨g, rfl, hg, n0, f0, _⟩ := own_putI hownA hil' mt
            have hgl := (own_rd hownA).1.blk _ rfl (by intro h; have := congrArg List.length h; rw [ints_length] at this; simp only [List.length_nil] at this; omega)
            have hrA := hr.later (bl_call hb0r hbA)
            rw [HME] at HST
            have HLK2 := HLK (now.getD i 0) mt
            generalize now.getD i 0 = a at *
            obtain ⟨wA, hwA⟩ : ∃ wA, wA = wr.alloc (.cells #[.int .i64 i, .int .i64 mt] 54) := ⟨_, rfl⟩
            rw [← hwA] at x1A xm hbA hrA n0 f0 hgl
            clear hownA
            have HF := Lib.hid (And.intro x1A.two (And.intro xm.two (And.intro n0 f0)))
            have HL3 := HLK2 wA.drew hrA
            have HH := fun w1 h => Lib.hid (has_c (some ⟨g, 0, none⟩) now c' mt w1 (by have := HNL.out; omega) h)
            simp only [has_contains, HNL.out] at HH
            clear HLK HLK2 H4 HME n0 f0
            go_wp2_with (fail)
            rw [← hwA]
            rw [hwA] at HF
            clear c0 c1
            obtain ⟨⟨c0, c1, _⟩, ⟨m0, m1, _⟩, n0, f0⟩ := HF.out
            rw [← hwA] at c0 c1 m0 m1 n0 f0
            clear hwA HF
            go_still_tail 8, (by kernel_rfl)
            change wpList _ _ _ _ _ wA.drew
            cases hq : linkB l a mt with
            | false =>
              rw [hq] at HL3
              have HS2 := HST.out
              rw [hq] at HS2
              have HST2 : Hid (([], k, 8) = planR l n p 0 M) := HS2
              clear HS2 HST hq
              go_wp2_with (fail)
              refine HL3.out.mono ?_
              rintro e w5 ⟨rfl, hb5⟩
              go_wp2_with (fail)
              go_ret3
              rw [← HST2.out]
              exact ⟨none, 0, rfl, World.ownsRow_nil _ _ _ _, bl_call (bl_call hb0r hbA).drew hb5⟩
            | true =>
              rw [hq] at HL3
              go_wp2_with (fail)
              refine HL3.out.mono ?_
              rintro e w5 ⟨rfl, hb5⟩
              have hbr5 : Below wr.heap.size wr w5 := hbA.drew.trans (hb5.mono hbA.size)
              have hown5 : w5.ownsRow w1.heap.size 3 1 (.slice (some ⟨g, 0, none⟩) now.length c') now.length (ints now) := by rw [HNL.out]; exact own_call hown hbr5
              have HHH := HH w5 (own_rd hown5).1
              obtain ⟨g', hg', _, n1, f1, hown6⟩ := own_putI hown5 hil' mt
              cases hg'
              simp only [List.length_set] at hown6
              rw [HNL.out] at hown6
              have xm5 := xm.call (((Below.refl _ _).drew).trans hb5)
              clear m0 m1 c0 c1 n0 f0
              obtain ⟨m0, m1, _⟩ := xm5.two
              have hb6 : Below w1.heap.size w1 (w5.setCell ⟨g, i, none⟩ (.int .i64 mt)) := (hb.trans (hbr5.mono hszr)).setCell (p := ⟨g, i, none⟩) hg _
              have HO := Lib.hid hown6
              clear hown6 hown5
              cases hq2 : now.contains mt with
              | true =>
                rw [hq2] at HHH
                have HS2 := HST.out
                rw [hq, hq2] at HS2
                have HST2 : Hid (([], k, 6) = planR l n p 0 M) := HS2
                clear HS2 HST hq2
                go_wp2_with (fail)
                refine HHH.out.mono ?_
                rintro e w6 ⟨rfl, rfl⟩
                go_wp2_with (fail)
                go_ret3
                rw [← HST2.out]
                exact ⟨none, 0, rfl, World.ownsRow_nil _ _ _ _, bl_call hb0r hbr5⟩
              | false =>
                rw [hq2] at HHH
                have HS2 := HST.out
                rw [hq, hq2] at HS2
                have HST2 : Hid (planR l n (nx now ((i : Int), mt)) (k + 1) (M.drop (k + 1)) = planR l n p 0 M) := HS2
                have hin2 := nx_in (m := ((i : Int), mt)) hnow z2
                clear HS2 HST hq2
                go_wp2_with (fail)
                refine HHH.out.mono ?_
                rintro e w6 ⟨rfl, rfl⟩
                go_wp2_with (fail)
                go_roundg gi
                case rel => exact ⟨k + 1, nx now ((i : Int), mt), by have h := HK.out; show _ = _; omega, by go_num, by simpa [nx] using HO.out, by have h := HNL.out; show _ = _; simpa [nx] using h, hin2, HST2, hb6⟩
                case measure => omega
    · have e1 : planG Z l p M = ([], 0, 3) := by rw [planG, if_pos hp, if_neg hM]
      rw [e1]
      rw [hp] at HV
      have hM' : (M.length : Int) > 400 := by omega
      clear e1 hp
      go_enter Try.func33, Try.ntmps33
      go_wp2_with (fail)
      refine HV.out.mono ?_
      rintro e w1 ⟨rfl, hb1⟩
      go_wp2_with (fail)
      go_ret3
      exact ⟨none, 0, rfl, World.ownsRow_nil _ _ _ _, bl_call hb0 hb1⟩
  · have e1 : planG Z l p M = ([], 0, placeE Z l p) := by rw [planG, if_neg hp]
    rw [e1]
    clear e1
    generalize placeE Z l p = te at *
    go_enter Try.func33, Try.ntmps33
    go_wp2_with (fail)
    refine HV.out.mono ?_
    rintro e w1 ⟨rfl, hb1⟩
    go_wp2_with (fail)
    go_ret3
    exact ⟨none, 0, rfl, World.ownsRow_nil _ _ _ _, bl_call hb0 hb1⟩
end Go.Proofs.Ytjgpfnnokdcgoaa
