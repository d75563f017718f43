/- CheckPlan of package zone. -/
import Derived.Test.YtjgpfnnokdcgoaaCheckZ
import Derived.Test.YtjgpfnnokdcgoaaCloneI
import Derived.Deep.LoopGhost
namespace Go.Proofs.Ytjgpfnnokdcgoaa
open Go.RowKit Go.Maps

theorem moveE_zero {l : List (Int × Int)} {Z : Int} {p : List Int} {m : Int × Int} (h : moveE l Z p m = 0) : zoneOk p.length m.1 = true ∧ zoneOk Z m.2 = true ∧ linkB l (p.getD m.1.toNat 0) m.2 = true ∧ p.contains m.2 = false := by
  unfold moveE at h
  cases h1 : zoneOk p.length m.1 with
  | false => simp [h1] at h
  | true =>
    cases h2 : zoneOk Z m.2 with
    | false => simp [h1, h2] at h
    | true =>
      cases h3 : linkB l (p.getD m.1.toNat 0) m.2 with
      | false => rw [h1, h2, h3] at h; simp at h
      | true =>
        cases h4 : p.contains m.2 with
        | true => rw [h1, h2, h3, h4] at h; simp at h
        | false => exact ⟨rfl, rfl, rfl, rfl⟩
theorem nx_in {Z : Int} {p : List Int} {m : Int × Int} (h : ∀ x ∈ p, 0 ≤ x ∧ x < Z) (hm : zoneOk Z m.2 = true) : ∀ x ∈ nx p m, 0 ≤ x ∧ x < Z := fun x hx => by
  rcases List.mem_or_eq_of_mem_set hx with hx | hx
  · exact h x hx
  · subst hx; exact zoneOk_iff.1 hm

set_option maxRecDepth 100000 in
set_option maxHeartbeats 4000000 in
theorem CheckPlan_c (Z : Int) (A B C : Option Addr) (l : List (Int × Int)) (p : List Int) (M : List (Int × Int)) (c d f : Nat) (w : World) (hlen : l.length ≤ 1000) (hlen' : p.length ≤ 1000) (hlenM : M.length ≤ 100000) (hr : Rd w A (cellsP l)) (hs : Rd w B (ints p)) (hm : Rd w C (cellsP M)) :
    Calls Try.prog 32 #[trapV Z A l.length c, .slice B p.length d, .slice C M.length f] w (OutP (planG Z l p M) w) := by
  have x0 := Bx.new w 24 #[.int .i64 Z, .slice A l.length c]
  have hb0 := bl_alloc (Below.refl w.heap.size w) (.cells #[.int .i64 Z, .slice A l.length c] 24)
  generalize hw0 : w.alloc (.cells #[.int .i64 Z, .slice A l.length c] 24) = w0 at *
  have HV := Lib.hid (place_c Z A B l p c d w0 hlen hlen' (hr.later hb0) (hs.later hb0))
  obtain ⟨c0, c1, _⟩ := x0.two
  by_cases hp : placeE Z l p = 0
  · by_cases hM : M.length ≤ 400
    · obtain ⟨ht, hp4, hin, hnd⟩ := placeE_zero hp
      obtain ⟨n, rfl, hn1, hn6⟩ := trap_nat ht
      have hl36 := trap_len ht
      have e1 : planG n l p M = planR l n p 0 M := by rw [planG, if_pos hp, if_pos hM]
      rw [e1]
      rw [hp] at HV
      have HN := fun w1 h => Lib.hid (netOf_c n A l c w1 ht (by omega) h)
      have HC := fun w1 h => Lib.hid (cloneI_c B p d w1 hlen' h)
      have hM' : ¬ (M.length : Int) > 400 := by omega
      clear e1 hp hnd ht
      go_enter Try.func32, Try.ntmps32
      go_wp2_with (fail)
      refine HV.out.mono ?_
      rintro e w1 ⟨rfl, hb1⟩
      have hb01 := bl_call hb0 hb1
      clear c0 c1
      obtain ⟨c0, c1, _⟩ := (x0.call hb1).two
      go_wp2_with (fail)
      refine (HN _ (hr.later hb01)).out.mono ?_
      rintro e w2 ⟨h0, h1, h2, h3, h4, h5, rfl, htb, hb2⟩
      have hb02 := bl_call hb01 hb2
      obtain ⟨A0, m0, k0, rfl⟩ := htb.form (k := 0) (by simp) rfl
      obtain ⟨A1, m1, k1, rfl⟩ := htb.form (k := 1) (by simp) rfl
      obtain ⟨A2, m2, k2, rfl⟩ := htb.form (k := 2) (by simp) rfl
      obtain ⟨A3, m3, k3, rfl⟩ := htb.form (k := 3) (by simp) rfl
      obtain ⟨A4, m4, k4, rfl⟩ := htb.form (k := 4) (by simp) rfl
      obtain ⟨A5, m5, k5, rfl⟩ := htb.form (k := 5) (by simp) rfl
      have hb03 := bl_alloc hb02 (.cells #[.int .i64 n, .slice A0 m0 k0, .slice A1 m1 k1, .slice A2 m2 k2, .slice A3 m3 k3, .slice A4 m4 k4, .slice A5 m5 k5] 78)
      have xn := Bx.new w2 78 #[.int .i64 n, .slice A0 m0 k0, .slice A1 m1 k1, .slice A2 m2 k2, .slice A3 m3 k3, .slice A4 m4 k4, .slice A5 m5 k5]
      have hnr := (NetR.of htb).later (bl_alloc (Below.refl w2.heap.size w2) (.cells #[.int .i64 n, .slice A0 m0 k0, .slice A1 m1 k1, .slice A2 m2 k2, .slice A3 m3 k3, .slice A4 m4 k4, .slice A5 m5 k5] 78))
      have hsz3 : (w2.alloc (.cells #[.int .i64 n, .slice A0 m0 k0, .slice A1 m1 k1, .slice A2 m2 k2, .slice A3 m3 k3, .slice A4 m4 k4, .slice A5 m5 k5] 78)).heap.size = w2.heap.size + 1 := by simp
      clear c0 c1
      obtain ⟨w3, hw3⟩ : ∃ w3, w3 = w2.alloc (.cells #[.int .i64 n, .slice A0 m0 k0, .slice A1 m1 k1, .slice A2 m2 k2, .slice A3 m3 k3, .slice A4 m4 k4, .slice A5 m5 k5] 78) := ⟨_, rfl⟩
      rw [← hw3] at hb03 xn hnr hsz3
      go_wp2_with (fail)
      rw [← hw3]
      clear hw3
      refine (HC _ (hs.later hb03)).out.mono ?_
      rintro e w4 ⟨A', c', rfl, ho, hb4⟩
      go_wp2_with (fail)
      go_loopg [30] M.length (fun gk iv wr => ∃ (k : Nat) (now : List Int), Hid (k + gk = M.length) ∧ iv = .int .i64 (k : Int) ∧ wr.ownsRow w3.heap.size 3 1 (.slice A' p.length c') p.length (ints now) ∧ Hid (now.length = p.length) ∧ (∀ x ∈ now, 0 ≤ x ∧ x < (n : Int)) ∧ Hid (planR l n now k (M.drop k) = planR l n p 0 M) ∧ Below w3.heap.size w3 wr)
      case atStart => exact ⟨0, p, by simp [Hid], rfl, ho, by simp [Hid], hin, by simp [Hid], hb4⟩
      case round =>
        obtain ⟨k, now, HK, rfl, hown, HNL, hnow, HPL, hb⟩ := hrel
        have hb0r := bl_call hb03 hb
        have hszr := hb.size
        rcases gk with _ | gi
        · obtain rfl : k = M.length := HK.out
          have hpl := HPL.out
          rw [planR_done] at hpl
          have HPL2 := Lib.hid hpl
          clear hpl
          go_wp2_with (fail)
          go_ret3
          rw [← HPL2.out]
          have hnl := HNL.out
          rw [← hnl] at hown
          refine ⟨A', c', ?_, own_base hown hb03.size, hb0r⟩
          show _ = Ending.returned (.tuple #[.slice A' now.length c', _, _])
          rw [hnl]
          rfl
        · have hkl : k < M.length := by have h := HK.out; omega
          have hkl' : (k : Int) < (M.length : Int) := by omega
          obtain ⟨bm, om, rfl, _, d0, d1⟩ := (hm.later hb0r).pair hkl
          have hst := planR_step (l := l) (Z := n) (p := now) hkl
          generalize M.getD k (0, 0) = m at *
          obtain ⟨mi, mt⟩ := m
          simp only [] at d0 d1
          have HST : Hid ((if moveE l n now (mi, mt) = 0 then planR l n (nx now (mi, mt)) (k + 1) (M.drop (k + 1)) else ([], k, moveE l n now (mi, mt))) = planR l n p 0 M) := by show _ = _; rw [← hst]; exact HPL.out
          clear hst
          have hnl := HNL.out
          have hbA := bl_alloc (Below.refl wr.heap.size wr) (.cells #[.int .i64 mi, .int .i64 mt] 54)
          have xm := Bx.new wr 54 #[.int .i64 mi, .int .i64 mt]
          have HCK := check_c n l _ _ _ _ _ _ A' now c' mi mt _ hn6 (by omega) hnow ((hnr.later hb).later hbA) ((own_rd (hnl ▸ own_call hown hbA : World.ownsRow _ _ _ _ (.slice A' now.length c') now.length (ints now))).1)
          rw [hnl] at HCK
          have HCK2 := Lib.hid HCK
          have xnr := (xn.call hb).call hbA
          obtain ⟨s0, s1, s2, s3, s4, s5, s6⟩ := (⟨xnr.cell 0, xnr.cell 1, xnr.cell 2, xnr.cell 3, xnr.cell 4, xnr.cell 5, xnr.cell 6⟩ : _ ∧ _ ∧ _ ∧ _ ∧ _ ∧ _ ∧ _)
          clear HCK hnl
          by_cases hE : moveE l n now (mi, mt) = 0
          · have HS2 := HST.out
            rw [if_pos hE] at HS2
            have HST2 := Lib.hid HS2
            obtain ⟨z1, z2, _, _⟩ := moveE_zero hE
            rw [hE] at HCK2
            have hin2 := nx_in (m := (mi, mt)) hnow z2
            simp only [] at z1 z2
            rw [HNL.out] at z1
            obtain ⟨i, rfl, hil⟩ := zoneOk_nat z1
            have hil' : i < now.length := by have := HNL.out; omega
            clear HS2 HST hE z1 z2
            go_wp2_with (fail)
            refine HCK2.out.mono ?_
            rintro e w5 ⟨rfl, hb5⟩
            have hbr5 := bl_call hbA hb5
            have hown5 : w5.ownsRow w3.heap.size 3 1 (.slice A' now.length c') now.length (ints now) := by rw [HNL.out]; exact own_call hown hbr5
            obtain ⟨g, rfl, hg, n0, f0, hown6⟩ := own_putI hown5 hil' mt
            simp only [List.length_set] at hown6
            rw [HNL.out] at hown6
            have xm5 := xm.call hb5
            clear d0 d1
            obtain ⟨d0, d1, _⟩ := xm5.two
            have hb6 : Below w3.heap.size w3 (w5.setCell ⟨g, i, none⟩ (.int .i64 mt)) := (hb.trans (hbr5.mono hszr)).setCell (p := ⟨g, i, none⟩) hg _
            have HO := Lib.hid hown6
            clear hown6 hown5
            go_wp2_with (fail)
            go_roundg gi
            case rel => exact ⟨k + 1, nx now ((i : Int), mt), by have h := HK.out; show _ = _; omega, by go_num, by simpa [nx] using HO.out, by have h := HNL.out; show _ = _; simpa [nx] using h, hin2, HST2, hb6⟩
            case measure => omega
          · have HS2 := HST.out
            rw [if_neg hE] at HS2
            have HST2 := Lib.hid HS2
            generalize moveE l n now (mi, mt) = me at *
            clear HS2 HST
            go_wp2_with (fail)
            refine HCK2.out.mono ?_
            rintro e w5 ⟨rfl, hb5⟩
            go_wp2_with (fail)
            go_ret3
            rw [← HST2.out]
            exact ⟨none, 0, rfl, World.ownsRow_nil _ _ _ _, bl_call hb0r (bl_call hbA hb5)⟩
    · have e1 : planG Z l p M = ([], 0, 3) := by rw [planG, if_pos hp, if_neg hM]
      rw [e1]
      rw [hp] at HV
      have hM' : (M.length : Int) > 400 := by omega
      clear e1 hp
      go_enter Try.func32, Try.ntmps32
      go_wp2_with (fail)
      refine HV.out.mono ?_
      rintro e w1 ⟨rfl, hb1⟩
      go_wp2_with (fail)
      go_ret3
      exact ⟨none, 0, rfl, World.ownsRow_nil _ _ _ _, bl_call hb0 hb1⟩
  · have e1 : planG Z l p M = ([], 0, placeE Z l p) := by rw [planG, if_neg hp]
    rw [e1]
    clear e1
    generalize placeE Z l p = te at *
    go_enter Try.func32, Try.ntmps32
    go_wp2_with (fail)
    refine HV.out.mono ?_
    rintro e w1 ⟨rfl, hb1⟩
    go_wp2_with (fail)
    go_ret3
    exact ⟨none, 0, rfl, World.ownsRow_nil _ _ _ _, bl_call hb0 hb1⟩
end Go.Proofs.Ytjgpfnnokdcgoaa
