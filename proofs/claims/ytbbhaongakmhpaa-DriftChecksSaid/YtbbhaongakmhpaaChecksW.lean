/- DriftChecks, walked. -/
import Derived.Test.YtbbhaongakmhpaaKnownD
import Derived.Test.YtbbhaongakmhpaaCkc
namespace Go.Proofs.Ytbbhaongakmhpaa
open Go.RowKit

theorem chc_comm (l : List T3) (r i j : Int) : chcE l r j i = chcE l r i j := by
  unfold chcE cl
  rw [clashB_comm]
  by_cases hv : validE l = 0
  · rw [if_pos hv, if_pos hv]
    by_cases h : oneB i l.length = true ∧ oneB j l.length = true
    · rw [if_pos h, if_pos ⟨h.2, h.1⟩]
    · rw [if_neg h, if_neg (fun x => h ⟨x.2, x.1⟩)]
  · rw [if_neg hv, if_neg hv]
theorem chc_zero {l : List T3} {r i j : Int} (h : chcE l r i j = 0) : ratE l r = 0 ∧ agrG l r = false := by
  rcases chc_cases l r i j with ⟨hv, hE⟩ | ⟨hv, h1, hE⟩ | ⟨hv, h1, h2, hE⟩ | ⟨hv, h1, h2, h3, hE⟩ | ⟨hv, h1, h2, h3, hE⟩
  · rw [hE] at h; exact absurd h hv
  · rw [hE] at h; cases h
  · rw [hE] at h; cases h
  · rw [hE] at h; cases h
  · have ho := validE_ok.1 hv
    have hR : ratE l r = 0 := ratE_ok.2 ⟨ho, inB_z.1 h3⟩
    refine ⟨hR, ?_⟩
    rw [agrG_yes hR]
    have a1 := oneB_z.1 h1
    have a2 := oneB_z.1 h2
    rcases hc : cl l r i.toNat j.toNat with _ | _
    · rw [hE, hc] at h; cases h
    · exact agreeB_clash ho (by omega) (by omega) hc
set_option maxRecDepth 100000 in
set_option maxHeartbeats 4000000 in
theorem driftChecks_walk (A : Option Addr) (l : List T3) (c : Nat) (r i j : Int) (w : World) (_hcap : l.length ≤ c) (hr : Rd w A (cellsT l)) (_hr : (Lit.int .i64 r).wf = true) (_hi : (Lit.int .i64 i).wf = true) (_hj : (Lit.int .i64 j).wf = true) :
    Calls Try.prog 4 #[.slice A l.length c, .int .i64 r, .agg #[.int .i64 i, .int .i64 j]] w fun e w' => e = .returned (.bool true) ∧ Below w.heap.size w w' := by
  have HL := fun w => Lib.hid (long_c A l.length c w)
  have HK := fun w => Lib.hid (known_c w)
  by_cases hlong : 100 < l.length
  · rw [decide_eq_true hlong] at HL
    go_enter Try.func4, Try.ntmps4
    go_wp2_with (fail)
    refine (HL _).out.mono ?_
    rintro e w1 ⟨rfl, rfl⟩
    go_wp2_with (fail)
    refine (HK _).out.mono ?_
    rintro e w2 ⟨rfl, hb2⟩
    go_wp2_with (fail)
    go_ret
    exact ⟨rfl, bl_call (bl_alloc (Below.refl _ _) _) hb2⟩
  · rw [decide_eq_false hlong] at HL
    have hlen : l.length ≤ 1000 := by omega
    clear hlong
    have H1 := fun w h => Lib.hid (CheckClash_c A l c r i j w hlen h)
    have H2 := fun w h => Lib.hid (rCheckClash_c A l c r i j w hlen h)
    have H3 := fun w h => Lib.hid (Agree_c A l c r w hlen h)
    have H4 := fun w h => Lib.hid (CheckClash_c A l c r j i w hlen h)
    rw [chc_comm] at H4
    by_cases hz : chcE l r i j = 0
    · have htriv := True.intro
      obtain ⟨hv, ha⟩ := chc_zero hz
      rw [hz] at H1 H2 H4
      rw [ha, hv] at H3
      clear hz hv ha
      go_enter Try.func4, Try.ntmps4
      have hb0 := bl_alloc (Below.refl w.heap.size w) (.cells #[.int .i64 i, .int .i64 j] 33)
      have hx0 : Bx (w.alloc (.cells #[.int .i64 i, .int .i64 j] 33)) w.heap.size 33 #[.int .i64 i, .int .i64 j] := Bx.new _ _ _
      go_wp2_with (fail)
      refine (HL _).out.mono ?_
      rintro e w1 ⟨rfl, rfl⟩
      obtain ⟨z0, z1, z2, z3⟩ := hx0.two
      go_wp2_with (fail)
      refine (H1 _ (hr.later hb0)).out.mono ?_
      rintro e w1_ ⟨rfl, hbx1⟩
      have hb01 := bl_call hb0 hbx1
      have hx1 := hx0.call hbx1
      clear z0 z1 z2 z3
      obtain ⟨z0, z1, z2, z3⟩ := hx1.two
      go_wp2_with (fail)
      refine (H2 _ (hr.later hb01)).out.mono ?_
      rintro e w2_ ⟨rfl, hbx2⟩
      have hb02 := bl_call hb01 hbx2
      have hx2 := hx1.call hbx2
      clear z0 z1 z2 z3
      obtain ⟨z0, z1, z2, z3⟩ := hx2.two
      go_wp2_with (fail)
      refine (H3 _ (hr.later hb02)).out.mono ?_
      rintro e w3_ ⟨rfl, hbx3⟩
      have hb03 := bl_call hb02 hbx3
      have hx3 := hx2.call hbx3
      clear z0 z1 z2 z3
      obtain ⟨z0, z1, z2, z3⟩ := hx3.two
      go_wp2_with (fail)
      refine (H4 _ (hr.later hb03)).out.mono ?_
      rintro e w4_ ⟨rfl, hbx4⟩
      have hb04 := bl_call hb03 hbx4
      have hx4 := hx3.call hbx4
      clear z0 z1 z2 z3
      obtain ⟨z0, z1, z2, z3⟩ := hx4.two
      go_wp2_with (fail)
      refine (HK _).out.mono ?_
      rintro e wk ⟨rfl, hbk⟩
      go_wp2_with (fail)
      go_ret
      exact ⟨rfl, bl_call hb04 hbk⟩
    · have htriv := True.intro
      have hz' : (chcE l r i j != 0) = true := by simpa using hz
      generalize chcE l r i j = E at *
      generalize ratE l r = R at *
      generalize agrG l r = G at *
      go_enter Try.func4, Try.ntmps4
      have hb0 := bl_alloc (Below.refl w.heap.size w) (.cells #[.int .i64 i, .int .i64 j] 33)
      have hx0 : Bx (w.alloc (.cells #[.int .i64 i, .int .i64 j] 33)) w.heap.size 33 #[.int .i64 i, .int .i64 j] := Bx.new _ _ _
      go_wp2_with (fail)
      refine (HL _).out.mono ?_
      rintro e w1 ⟨rfl, rfl⟩
      obtain ⟨z0, z1, z2, z3⟩ := hx0.two
      go_wp2_with (fail)
      refine (H1 _ (hr.later hb0)).out.mono ?_
      rintro e w1_ ⟨rfl, hbx1⟩
      have hb01 := bl_call hb0 hbx1
      have hx1 := hx0.call hbx1
      clear z0 z1 z2 z3
      obtain ⟨z0, z1, z2, z3⟩ := hx1.two
      go_wp2_with (fail)
      refine (H2 _ (hr.later hb01)).out.mono ?_
      rintro e w2_ ⟨rfl, hbx2⟩
      have hb02 := bl_call hb01 hbx2
      have hx2 := hx1.call hbx2
      clear z0 z1 z2 z3
      obtain ⟨z0, z1, z2, z3⟩ := hx2.two
      go_wp2_with (fail)
      refine (H3 _ (hr.later hb02)).out.mono ?_
      rintro e w3_ ⟨rfl, hbx3⟩
      have hb03 := bl_call hb02 hbx3
      have hx3 := hx2.call hbx3
      clear z0 z1 z2 z3
      obtain ⟨z0, z1, z2, z3⟩ := hx3.two
      go_wp2_with (fail)
      refine (H4 _ (hr.later hb03)).out.mono ?_
      rintro e w4_ ⟨rfl, hbx4⟩
      have hb04 := bl_call hb03 hbx4
      have hx4 := hx3.call hbx4
      clear z0 z1 z2 z3
      obtain ⟨z0, z1, z2, z3⟩ := hx4.two
      go_wp2_with (fail)
      refine (HK _).out.mono ?_
      rintro e wk ⟨rfl, hbk⟩
      go_wp2_with (fail)
      go_ret
      exact ⟨rfl, bl_call hb04 hbk⟩
end Go.Proofs.Ytbbhaongakmhpaa
