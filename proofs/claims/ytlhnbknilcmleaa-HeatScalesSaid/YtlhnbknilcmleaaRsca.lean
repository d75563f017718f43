/- The document's Scale. -/
import Derived.Test.YtlhnbknilcmleaaSca
namespace Go.Proofs.Ytlhnbknilcmleaa
open Go.RowKit

theorem scl_act (h b : Int) (hh : 0 ≤ h ∧ h ≤ 100) : (h = 0 ∧ sclB b h = true) ∨ (0 < h ∧ sclB b h = true ∧ inB b 0 100 = true ∧ inB (h * b) 0 100 = true ∧ wrap64 (h * b) = h * b) ∨ (0 < h ∧ sclB b h = false ∧ inB b 0 100 = false) ∨ (0 < h ∧ sclB b h = false ∧ inB b 0 100 = true ∧ inB (h * b) 0 100 = false ∧ wrap64 (h * b) = h * b) := by
  by_cases h0 : h = 0
  · exact .inl ⟨h0, by simp [sclB, h0]⟩
  · have h1 : 0 < h := by omega
    have q0 : (h == 0) = false := by simpa using h0
    by_cases hb : 0 ≤ b ∧ b ≤ 100
    · have e1 : 1 * b ≤ h * b := Int.mul_le_mul_of_nonneg_right (by omega) hb.1
      have e2 : h * b ≤ 100 * b := Int.mul_le_mul_of_nonneg_right hh.2 hb.1
      have e3 : b * h = h * b := Int.mul_comm _ _
      have hw : wrap64 (h * b) = h * b := by
        generalize h * b = p at *
        exact IntWalk.wrap64_in _ ⟨by omega, by omega⟩
      by_cases hp : h * b ≤ 100
      · exact .inr (.inl ⟨h1, by simp [sclB, q0, hb.1, e3, hp], inB_z.2 hb, inB_z.2 ⟨by omega, hp⟩, hw⟩)
      · exact .inr (.inr (.inr ⟨h1, by simp [sclB, q0, hb.1, e3]; omega, inB_z.2 hb, by rw [inB_no]; omega, hw⟩))
    · refine .inr (.inr (.inl ⟨h1, ?_, by rw [inB_no]; exact hb⟩))
      rw [sclB, q0]
      by_cases hb0 : 0 ≤ b
      · have e1 : b * 1 ≤ b * h := Int.mul_le_mul_of_nonneg_left (by omega) hb0
        simp; intro _; omega
      · simp; intro _; omega
theorem scl_map {b : Int} {l : List T3} {k : Nat} (h : k < l.length) : (l.take (k + 1)).map (sclX b) = (l.take k).map (sclX b) ++ [sclX b (l.getD k t0)] := by
  rw [List.take_succ_eq_append_getElem h, List.map_append]; simp [h]

set_option maxRecDepth 100000 in
set_option maxHeartbeats 4000000 in
theorem rScale_c (n : Int) (A : Option Addr) (l : List T3) (c : Nat) (by_ : Int) (w : World) (hlen : l.length ≤ 1000) (hr : Rd w A (cellsT l)) :
    Calls Try.prog 52 #[.int .i64 n, .slice A l.length c, .int .i64 by_] w (OutT 61 (sclG n l by_) (sclE n l by_) w) := by
  have HV := Lib.hid (rvalidate_c n A l c w hlen hr)
  rcases scl_cases3 n l by_ with ⟨h1, h2, h3⟩ | ⟨h1, h2, h3⟩
  · have hv' : (validE n l != 0) = true := by simpa using h1
    rw [h2, h3]
    clear h2 h3
    generalize validE n l = ev at *
    go_enter Try.func52, Try.ntmps52
    go_wp2_with (go_at_call 25; refine HV.out.mono ?_; rintro e w1 ⟨rfl, hb1⟩)
    go_ret2
    exact ⟨none, 0, rfl, World.ownsRow_nil _ _ _ _, hb1⟩
  · have hac := validE_acts h1
    have H2 := Lib.hid h2
    have H3 := Lib.hid h3
    rw [h1] at HV
    clear h1 h2 h3
    go_enter Try.func52, Try.ntmps52
    go_wp2_with (go_at_call 25; refine HV.out.mono ?_; rintro e w1 ⟨rfl, hb1⟩)
    go_loopg [9, 10] l.length (fun gk v iv wr => ∃ k : Nat, Hid (k + gk = l.length) ∧ iv = .int .i64 (k : Int) ∧ Hid (∀ j, j < k → sclB by_ (l.getD j t0).2.2 = true) ∧ wr.ownsRow w.heap.size 61 3 v ((l.take k).map (sclX by_)).length (cellsT ((l.take k).map (sclX by_))) ∧ Below w.heap.size w wr)
    case atStart => exact ⟨0, by simp [Hid], rfl, fun j h => absurd h (by omega), World.ownsRow_nil _ _ _ _, hb1⟩
    case round =>
      obtain ⟨k, HK, rfl, HP, hown, hb⟩ := hrel
      rcases gk with _ | gi
      · obtain rfl : k = l.length := HK.out
        obtain ⟨A', c', rfl⟩ := own_form hown
        rw [List.take_length] at hown
        obtain ⟨e1, e2⟩ := H2.out (sclOk_all HP.out)
        have E1 := Lib.hid e1
        have E2 := Lib.hid e2
        clear e1 e2
        go_wp2_with (fail)
        go_ret2
        exact ⟨A', c', by rw [E1.out, E2.out, List.take_length]; rfl, by rw [E2.out]; exact hown, hb⟩
      · have hkl : k < l.length := by have := HK.out; omega
        have hkl' : (k : Int) < (l.length : Int) := by omega
        have hg := hac.get hkl
        have hg0 := hg.h0
        have hg1 := hg.h1
        obtain ⟨b, o, rfl, _, c0, c1, c3⟩ := (hr.later hb).tri hkl
        have HN := Lib.hid (scl_map (b := by_) hkl)
        have hfl : ((l.take k).map (sclX by_)).length ≤ 1000 := by simp; omega
        have HB := Lib.hid (fun h => H3.out (sclOk_bad (b := by_) hkl h))
        have HG : Hid (sclB by_ (l.getD k t0).2.2 = true → ∀ j, j < k + 1 → sclB by_ (l.getD j t0).2.2 = true) := fun h j hj => by
          rcases Nat.lt_or_ge j k with x | x
          · exact HP.out j x
          · obtain rfl : j = k := by omega
            exact h
        clear hg
        generalize l.getD k t0 = x at *
        generalize (l.take k).map (sclX by_) = L at *
        obtain ⟨x0, x1, x2⟩ := x
        simp only [] at c0 c1 c3 HN HB HG hg0 hg1
        have hba := bl_alloc hb (.cells #[.int .i64 x0, .int .i64 x1, .int .i64 x2] 61)
        rcases scl_act x2 by_ ⟨hg0, hg1⟩ with ⟨rfl, h1⟩ | ⟨h0, h1, h2, h3, h4⟩ | ⟨h0, h1, h2⟩ | ⟨h0, h1, h2, h3, h4⟩
        · have HX : Hid ((l.take (k + 1)).map (sclX by_) = L ++ [(x0, x1, 0)]) := by show _ = _; rw [HN.out]; simp [sclX]
          have HX2 := Lib.hid (HG.out h1)
          obtain ⟨A3, c4, W3, E3, ho3, hb3, _⟩ := append_three w.heap.size 22 61 act_info Try.underlying22 _ u9 L (x0, x1, 0) (own_call hown (bl_alloc (Below.refl wr.heap.size wr) (.cells #[.int .i64 x0, .int .i64 x1, .int .i64 0] 61))) (by omega) hba.size
          simp only [World.size_alloc] at E3
          have HE3 := Lib.hid E3
          clear E3 h1
          go_wp2_with (at_builtin; refine wpList_append_eq rfl _ _ 22 rfl _ _ _ W3 rfl rfl HE3.out ?_)
          have hb4 := hba.trans hb3
          go_wp2_with (fail)
          go_roundg gi
          case rel => exact ⟨k + 1, by have := HK.out; show _ = _; omega, by go_num, HX2.out, by rw [HX.out]; exact ho3, hb4⟩
          case measure => omega
        · have HX : Hid ((l.take (k + 1)).map (sclX by_) = L ++ [(x0, x1, x2 * by_)]) := by show _ = _; rw [HN.out]; simp [sclX]
          have HX2 := Lib.hid (HG.out h1)
          have hba' := bl_alloc hb (.cells #[.int .i64 x0, .int .i64 x1, .int .i64 (x2 * by_)] 61)
          obtain ⟨A3, c4, W3, E3, ho3, hb3, _⟩ := append_three w.heap.size 22 61 act_info Try.underlying22 _ u9 L (x0, x1, x2 * by_) (own_call hown (bl_alloc (Below.refl wr.heap.size wr) (.cells #[.int .i64 x0, .int .i64 x1, .int .i64 (x2 * by_)] 61))) (by omega) hba'.size
          simp only [World.size_alloc] at E3
          have HE3 := Lib.hid E3
          clear E3 h1
          go_wp2_with (first | (go_at_call 59; refine (within_c _ _ _ _).mono ?_; rintro e w' ⟨rfl, rfl⟩) | (at_builtin; refine wpList_append_eq rfl _ _ 22 rfl _ _ _ W3 rfl rfl HE3.out ?_))
          have hb4 := hba'.trans hb3
          go_wp2_with (fail)
          go_roundg gi
          case rel => exact ⟨k + 1, by have := HK.out; show _ = _; omega, by go_num, HX2.out, by rw [HX.out]; exact ho3, hb4⟩
          case measure => omega
        · obtain ⟨e1, e2⟩ := HB.out h1
          have E1 := Lib.hid e1
          have E2 := Lib.hid e2
          clear h1 e1 e2
          go_wp2_with (go_at_call 59; refine (within_c _ _ _ _).mono ?_; rintro e w' ⟨rfl, rfl⟩)
          go_ret2
          exact ⟨none, 0, by rw [E1.out, E2.out]; rfl, by rw [E2.out]; exact World.ownsRow_nil _ _ _ _, hba⟩
        · obtain ⟨e1, e2⟩ := HB.out h1
          have E1 := Lib.hid e1
          have E2 := Lib.hid e2
          clear h1 e1 e2
          go_wp2_with (first | (go_at_call 59; refine (within_c _ _ _ _).mono ?_; rintro e w' ⟨rfl, rfl⟩))
          go_ret2
          exact ⟨none, 0, by rw [E1.out, E2.out]; rfl, by rw [E2.out]; exact World.ownsRow_nil _ _ _ _, hba⟩
end Go.Proofs.Ytlhnbknilcmleaa
