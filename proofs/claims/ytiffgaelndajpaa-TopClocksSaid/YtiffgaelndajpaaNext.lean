/- The most urgent job of a unit: package clock's. -/
import Derived.Test.YtiffgaelndajpaaDem
import Derived.Test.YtiffgaelndajpaaLowT
namespace Go.Proofs.Ytiffgaelndajpaa
open Go.RowKit

theorem soonest_c (f b n f' b' n' : Int) (w : World) : Calls Try.prog 98 #[.agg #[], .agg #[.int .i64 f, .int .i64 b, .int .i64 n], .agg #[.int .i64 f', .int .i64 b', .int .i64 n']] w fun e w' => e = .returned (.bool (decide (b < b'))) ∧ Below w.heap.size w w' := by
  go_enter Try.func98, Try.ntmps98
  go_wp2
  go_ret
  exact ⟨rfl, bl_alloc (bl_alloc (bl_alloc (Below.refl _ _) _) _) _⟩
theorem isPos_c (f b n : Int) (w : World) : Calls Try.prog 81 #[.agg #[.int .i64 f, .int .i64 b, .int .i64 n]] w fun e w' => e = .returned (.bool (decide (0 < n))) ∧ Below w.heap.size w w' := by
  go_enter Try.func81, Try.ntmps81
  go_wp2
  go_ret
  exact ⟨rfl, bl_alloc (Below.refl _ _) _⟩

set_option maxRecDepth 100000 in
set_option maxHeartbeats 2000000 in
theorem indexP_c (A : Option Addr) (l : List T3) (c : Nat) (w : World) (hlen : l.length ≤ 1000) (hr : Rd w A (cellsT l)) :
    Calls Try.prog 82 #[.slice A l.length c, .func (.func 81) #[] #[]] w fun e w' => (∃ r : Int, e = .returned (.int .i64 r) ∧ ((r = -1 ∧ ∀ j, j < l.length → ¬ 0 < (l.getD j t0).2.2) ∨ ∃ k : Nat, r = (k : Int) ∧ k < l.length ∧ 0 < (l.getD k t0).2.2)) ∧ Below w.heap.size w w' := by
  go_enter Try.func82, Try.ntmps82
  go_wp2_with (fail)
  go_loopg [8] l.length (fun gk iv wr => ∃ k : Nat, Hid (k + gk = l.length) ∧ iv = .int .i64 (k : Int) ∧ Hid (∀ j, j < k → ¬ 0 < (l.getD j t0).2.2) ∧ Below w.heap.size w wr)
  case atStart => exact ⟨0, by simp [Hid], rfl, fun j h => absurd h (by omega), Below.refl _ _⟩
  case round =>
    obtain ⟨k, HK, rfl, HP, hb⟩ := hrel
    rcases gk with _ | gi
    · obtain rfl : k = l.length := HK.out
      go_wp2_with (fail)
      go_ret
      exact ⟨⟨-1, rfl, .inl ⟨rfl, HP.out⟩⟩, hb⟩
    · have hkl : k < l.length := by have := HK.out; omega
      have hkl' : (k : Int) < (l.length : Int) := by omega
      obtain ⟨b, o, rfl, _, c0, c1, c3⟩ := (hr.later hb).tri hkl
      have HX : Hid (0 < (l.getD k t0).2.2 → ∃ r : Int, r = (k : Int) ∧ ((r = -1 ∧ ∀ j, j < l.length → ¬ 0 < (l.getD j t0).2.2) ∨ ∃ k : Nat, r = (k : Int) ∧ k < l.length ∧ 0 < (l.getD k t0).2.2)) := fun h => ⟨_, rfl, .inr ⟨k, rfl, hkl, h⟩⟩
      have HG : Hid (¬ 0 < (l.getD k t0).2.2 → ∀ j, j < k + 1 → ¬ 0 < (l.getD j t0).2.2) := fun h j hj => by
        rcases Nat.lt_or_ge j k with x | x
        · exact HP.out j x
        · obtain rfl : j = k := by omega
          exact h
      generalize l.getD k t0 = x at c0 c1 c3 HX HG
      obtain ⟨x0, x1, x2⟩ := x
      simp only [] at c0 c1 c3 HX HG
      have HI := fun w1 => Lib.hid (isPos_c x0 x1 x2 w1)
      by_cases hx : 0 < x2
      · obtain ⟨r, hr1, hr2⟩ := HX.out hx
        rw [decide_eq_true hx] at HI
        have HR := Lib.hid hr2
        have HR1 := Lib.hid hr1
        clear hx hr1 hr2
        go_wp2_with (go_at_call 81; refine (HI _).out.mono ?_; rintro e w3 ⟨rfl, hb3⟩)
        go_ret
        exact ⟨⟨r, by rw [HR1.out]; rfl, HR.out⟩, bl_call hb hb3⟩
      · have HX2 := Lib.hid (HG.out hx)
        rw [decide_eq_false hx] at HI
        clear hx
        go_wp2_with (go_at_call 81; refine (HI _).out.mono ?_; rintro e w3 ⟨rfl, hb3⟩)
        go_roundg gi
        case rel => exact ⟨k + 1, by have := HK.out; show _ = _; omega, by go_num, HX2.out, bl_call hb hb3⟩
        case measure => omega
theorem any_sum {l : List T3} (hj : Jobs l) : (∀ j, j < l.length → ¬ 0 < (l.getD j t0).2.2) → sumN l = 0 := fun h =>
  (sumN_zero hj).2 fun k hk => by have := h k hk; have := (hj.get hk).n0; omega
theorem any_pos {l : List T3} (hj : Jobs l) {k : Nat} (hk : k < l.length) (h : 0 < (l.getD k t0).2.2) : 0 < sumN l := by
  have := sumTo_ge (f := fun k => (l.getD k t0).2.2) (n := l.length) (fun j hk => (hj.get hk).n0) k hk
  unfold sumN; omega
theorem containsP_c (A : Option Addr) (l : List T3) (c : Nat) (w : World) (hlen : l.length ≤ 1000) (hj : Jobs l) (hr : Rd w A (cellsT l)) :
    Calls Try.prog 80 #[.slice A l.length c, .func (.func 81) #[] #[]] w fun e w' => e = .returned (.bool (decide (0 < sumN l))) ∧ Below w.heap.size w w' := by
  have HI := Lib.hid (indexP_c A l c w hlen hr)
  go_enter Try.func80, Try.ntmps80
  go_wp2_with (fail)
  refine HI.out.mono ?_
  rintro e w1 ⟨⟨r, rfl, hr⟩, hb1⟩
  rcases hr with ⟨rfl, hno⟩ | ⟨k, rfl, hkl, hk2⟩
  · have HZ := Lib.hid (any_sum hj fun j h1 h2 => by have := hno j h1; omega)
    clear hno
    go_wp2_with (fail)
    go_ret
    exact ⟨ret_b (by rw [HZ.out]; rfl), hb1⟩
  · have HZ := Lib.hid (any_pos hj hkl hk2)
    clear hk2
    go_wp2_with (fail)
    go_ret
    refine ⟨ret_b (by rw [decide_eq_true HZ.out]), hb1⟩
theorem isAnyLeft_c (A : Option Addr) (l : List T3) (c : Nat) (w : World) (hlen : l.length ≤ 1000) (hj : Jobs l) (hr : Rd w A (cellsT l)) :
    Calls Try.prog 78 #[.slice A l.length c] w fun e w' => e = .returned (.bool (decide (0 < sumN l))) ∧ Below w.heap.size w w' := by
  have HI := Lib.hid (containsP_c A l c w hlen hj hr)
  go_enter Try.func78, Try.ntmps78
  go_wp2_with (fail)
  refine HI.out.mono ?_
  rintro e w1 ⟨rfl, hb1⟩
  go_wp2_with (fail)
  go_ret
  exact ⟨rfl, hb1⟩

theorem na_s (w : World) : (nilAhead 205 68 (.agg #[]) "quadrupole/clock.isMoreUrgent").run Try.prog w = .ok (some false) w := by kernel_rfl
theorem me_s (w : World) : (method 205 68 (.agg #[]) "quadrupole/clock.isMoreUrgent").run Try.prog w = .ok (98, .agg #[]) w := by kernel_rfl

theorem nextTo_skip {L : List T3} {t k : Nat} (h : availB L t k = false) : nextTo L t (k + 1) = nextTo L t k := by rw [nextTo, h]; simp
theorem nextTo_first {L : List T3} {t k : Nat} (h : availB L t k = true) (hf : nextTo L t k = -1) : nextTo L t (k + 1) = (k : Int) := by rw [nextTo, h, hf]; rfl
theorem nextTo_other {L : List T3} {t k i : Nat} (h : availB L t k = true) (hf : nextTo L t k = (i : Int)) : nextTo L t (k + 1) = if (L.getD k t0).2.1 < (L.getD i t0).2.1 then (k : Int) else (i : Int) := by
  rw [nextTo, h, hf, if_pos rfl, if_neg (by omega), Int.toNat_natCast]
theorem nextTo_range (L : List T3) (t k : Nat) : nextTo L t k = -1 ∨ ∃ i : Nat, nextTo L t k = (i : Int) ∧ i < k := by
  rcases nextTo_is L t k with ⟨h, _⟩ | ⟨i, h, hi, _⟩
  · exact .inl h
  · exact .inr ⟨i, h, hi⟩

set_option maxRecDepth 100000 in
set_option maxHeartbeats 4000000 in
theorem next_c (A : Option Addr) (L : List T3) (c : Nat) (t : Nat) (w : World) (hlen : L.length ≤ 1000) (hj : Jobs L) (hr : Rd w A (cellsT L)) :
    Calls Try.prog 79 #[.iface 68 (.agg #[]), .slice A L.length c, .int .i64 t] w fun e w' => e = .returned (.int .i64 (nextF L t)) ∧ Below w.heap.size w w' := by
  have HF : Hid (nextF L t = nextTo L t L.length) := rfl
  have HNA := na_s
  have HME := me_s
  go_enter Try.func79, Try.ntmps79
  go_wp2_with (fail)
  go_loopg [7, 12] L.length (fun gk fv iv wr => ∃ (k : Nat) (f : Int), Hid (k + gk = L.length) ∧ iv = .int .i64 (k : Int) ∧ fv = .int .i64 f ∧ Hid (nextTo L t k = f) ∧ Below w.heap.size w wr)
  case atStart => exact ⟨0, -1, by simp [Hid], rfl, rfl, rfl, Below.refl _ _⟩
  case round =>
    obtain ⟨k, f, HK, rfl, rfl, HN, hb⟩ := hrel
    rcases gk with _ | gi
    · obtain rfl : k = L.length := HK.out
      go_wp2_with (fail)
      go_ret
      exact ⟨ret_i (by rw [HF.out, HN.out]), hb⟩
    · have hlt : k < L.length := by have := HK.out; omega
      have hlt' : (k : Int) < (L.length : Int) := by omega
      have hg0 := (hj.get hlt).n0
      have HS := Lib.hid (@nextTo_skip L t k)
      have H1 := Lib.hid (@nextTo_first L t k)
      have H2 := Lib.hid (fun i => @nextTo_other L t k i)
      have HA : Hid (availB L t k = (decide (0 < (L.getD k t0).2.2) && decide ((L.getD k t0).1 ≤ (t : Int)))) := rfl
      have HRG := Lib.hid (nextTo_range L t k)
      rw [HN.out] at HRG
      have hba := fun v => bl_alloc hb (.cells v 40)
      rcases HRG.out with rfl | ⟨i, rfl, hik⟩
      · obtain ⟨b, o, rfl, hbl, c0, c1, c2⟩ := (hr.later hb).tri hlt
        generalize L.getD k t0 = g at c0 c1 c2 H2 HA hg0
        obtain ⟨g0, g1, g2⟩ := g
        simp only [] at c0 c1 c2 H2 HA hg0
        clear H2
        by_cases hz : g2 = 0
        · subst hz
          have H3 := Lib.hid (HS.out (by rw [HA.out]; simp))
          go_wp2_with (fail)
          go_roundg gi
          case rel => exact ⟨k + 1, -1, by have := HK.out; show _ = _; omega, by go_num, rfl, by show _ = _; rw [H3.out, HN.out], hba _⟩
          case measure => omega
        · have hz' : (g2 == 0) = false := by simpa using hz
          by_cases hf : (t : Int) < g0
          · have H3 := Lib.hid (HS.out (by rw [HA.out]; simp; omega))
            go_wp2_with (fail)
            go_roundg gi
            case rel => exact ⟨k + 1, -1, by have := HK.out; show _ = _; omega, by go_num, rfl, by show _ = _; rw [H3.out, HN.out], hba _⟩
            case measure => omega
          · have H3 := Lib.hid (H1.out (by rw [HA.out]; simp; omega) HN.out)
            go_wp2_with (fail)
            have hbW : Below w.heap.size w (wr.alloc (.cells #[.int .i64 g0, .int .i64 g1, .int .i64 g2] 40)).drew := (hba _).drew
            refine wp_region_low (hbW) (by kernel_rfl) (by kernel_rfl) ?_
            repeat (first
              | go_big_quiet_skip
              | (go_big_quiet_want
                 apply Exists.intro
                 refine And.intro (fun W hW => ?_) ?_
                 · (skip)
                   go_simp
                   first
                     | exact rfl
                     | (fail)
                 try go_simp
                 go_big_quiet_on))
            refine wpQuiet_nil ?_
            intro w9 hb9
            go_wp2_with (fail)
            go_roundg gi
            case rel => exact ⟨k + 1, k, by have := HK.out; show _ = _; omega, by go_num, rfl, H3.out, hb9⟩
            case measure => omega
      · have hil : i < L.length := by omega
        have hil' : (i : Int) < (L.length : Int) := by omega
        have hin : ((i : Int) == -1) = false := by rw [beq_eq_false_iff_ne]; omega
        obtain ⟨b, o, rfl, hbl, ⟨c0, c1, c2⟩, d0, d1, d2⟩ := (hr.later hb).tri2 hlt hil
        generalize L.getD k t0 = g at c0 c1 c2 H2 HA hg0
        obtain ⟨g0, g1, g2⟩ := g
        simp only [] at c0 c1 c2 H2 HA hg0
        by_cases hz : g2 = 0
        · subst hz
          have H3 := Lib.hid (HS.out (by rw [HA.out]; simp))
          clear H2
          go_wp2_with (fail)
          go_roundg gi
          case rel => exact ⟨k + 1, i, by have := HK.out; show _ = _; omega, by go_num, rfl, by show _ = _; rw [H3.out, HN.out], hba _⟩
          case measure => omega
        · have hz' : (g2 == 0) = false := by simpa using hz
          by_cases hf : (t : Int) < g0
          · have H3 := Lib.hid (HS.out (by rw [HA.out]; simp; omega))
            clear H2
            go_wp2_with (fail)
            go_roundg gi
            case rel => exact ⟨k + 1, i, by have := HK.out; show _ = _; omega, by go_num, rfl, by show _ = _; rw [H3.out, HN.out], hba _⟩
            case measure => omega
          · have H3 := Lib.hid (H2.out i (by rw [HA.out]; simp; omega) HN.out)
            clear H2
            have hbo : b < wr.heap.size := hbl
            go_wp2_with (fail)
            generalize L.getD i t0 = g' at d0 d1 d2 H3
            obtain ⟨g0', g1', g2'⟩ := g'
            simp only [] at d0 d1 d2 H3
            have HU := fun w => Lib.hid (soonest_c g0 g1 g2 g0' g1' g2' w)
            obtain ⟨W0, hW0⟩ : ∃ W0, W0 = wr.alloc (.cells #[.int .i64 g0, .int .i64 g1, .int .i64 g2] 40) := ⟨_, rfl⟩
            have hW1 : Below wr.heap.size wr W0 := by rw [hW0]; exact bl_alloc (Below.refl _ _) _
            have hbx : Bx W0 wr.heap.size 40 #[.int .i64 g0, .int .i64 g1, .int .i64 g2] := by rw [hW0]; exact Bx.new _ _ _
            have hba0 := hba #[.int .i64 g0, .int .i64 g1, .int .i64 g2]
            rw [← hW0] at hba0 ⊢
            clear hW0 c0 c1 c2
            have HCL : Hid (∀ w1, Below W0.heap.size W0 w1 → (w1.cell? ⟨wr.heap.size, 0, none⟩ = some (.int .i64 g0) ∧ w1.cell? ⟨wr.heap.size, 1, none⟩ = some (.int .i64 g1) ∧ w1.cell? ⟨wr.heap.size, 2, none⟩ = some (.int .i64 g2)) ∧ (w1.cell? ⟨b, o + i * 3, none⟩ = some (.int .i64 g0') ∧ w1.cell? ⟨b, o + i * 3 + 1, none⟩ = some (.int .i64 g1') ∧ w1.cell? ⟨b, o + i * 3 + 2, none⟩ = some (.int .i64 g2'))) := fun w1 hw => by
              obtain ⟨z0, z1, z2, _, _, _⟩ := (hbx.call hw).three
              have hh : ∀ j, w1.cell? ⟨b, j, none⟩ = wr.cell? ⟨b, j, none⟩ := fun j => (hw.cell (p := ⟨b, j, none⟩) (by have := hW1.size; show b < W0.heap.size; omega)).trans (hW1.cell (p := ⟨b, j, none⟩) hbl)
              exact ⟨⟨z0, z1, z2⟩, by rw [hh]; exact d0, by rw [hh]; exact d1, by rw [hh]; exact d2⟩
            clear d0 d1 d2
            have hbW : Below W0.heap.size W0 W0.drew := (Below.refl _ _).drew
            refine wp_region_low (hbW) (by kernel_rfl) (by kernel_rfl) ?_
            repeat (first
              | go_big_quiet_skip
              | (go_big_quiet_want
                 apply Exists.intro
                 refine And.intro (fun W hW => ?_) ?_
                 · (obtain ⟨⟨z0, z1, z2⟩, z3, z4, z5⟩ := HCL.out W hW)
                   go_simp
                   first
                     | exact rfl
                     | (refine (HU W).out.mono ?_; rintro e w1 ⟨rfl, hb1⟩; exact ⟨rfl, bl_call hW hb1⟩)
                 try go_simp
                 go_big_quiet_on))
            refine wpQuiet_nil ?_
            intro w9 hb9
            have hb10 := bl_call hba0 hb9
            by_cases hlt2 : g1 < g1'
            · have H4 := H3.out
              rw [if_pos hlt2] at H4
              have H5 := Lib.hid H4
              clear H3 H4
              go_wp2_with (fail)
              go_roundg gi
              case rel => exact ⟨k + 1, k, by have := HK.out; show _ = _; omega, by go_num, rfl, H5.out, hb10⟩
              case measure => omega
            · have H4 := H3.out
              rw [if_neg hlt2] at H4
              have H5 := Lib.hid H4
              clear H3 H4
              go_wp2_with (fail)
              go_roundg gi
              case rel => exact ⟨k + 1, i, by have := HK.out; show _ = _; omega, by go_num, rfl, H5.out, hb10⟩
              case measure => omega
end Go.Proofs.Ytiffgaelndajpaa
