/- The walk of 'BudgetJoins'. -/
import Derived.Test.YtgbjglkiaoplmaaScalesW
import Derived.Test.YtgbjglkiaoplmaaJoi
namespace Go.Proofs.Ytgbjglkiaoplmaa
open Go.RowKit

theorem appI_left {l m : List It} {k : Nat} (h : k < l.length) : (l ++ m).getD k it0 = l.getD k it0 := by
  simp [List.getD_eq_getElem?_getD, List.getElem?_append_left h]
theorem appI_right {l m : List It} {k : Nat} : (l ++ m).getD (l.length + k) it0 = m.getD k it0 := by
  simp [List.getD_eq_getElem?_getD, List.getElem?_append_right (Nat.le_add_right l.length k)]
theorem parts_left {l m : List It} : ∀ k, k ≤ l.length → partsTo (l ++ m) k = partsTo l k
  | 0, _ => rfl
  | k + 1, h => by rw [partsTo, partsTo, parts_left k (by omega), appI_left (by omega)]
theorem parts_right {l m : List It} : ∀ k, partsTo (l ++ m) (l.length + k) = partsL l + partsTo m k
  | 0 => by rw [Nat.add_zero, parts_left _ (Nat.le_refl _)]; simp [partsTo, partsL]
  | k + 1 => by rw [← Nat.add_assoc, partsTo, parts_right k, appI_right, partsTo]; omega
theorem parts_app (l m : List It) : partsL (l ++ m) = partsL l + partsL m := by
  have := parts_right (l := l) (m := m) m.length
  unfold partsL at *
  rw [List.length_append]; exact this
theorem val_app {l m : List It} (h1 : valE l = 0) (h2 : valE m = 0) (h3 : l.length + m.length ≤ 6) : valE (l ++ m) = 0 := by
  have a1 := (valE_ok h1).2
  have a2 := (valE_ok h2).2
  unfold valE
  rw [if_neg (by rw [List.length_append]; omega), if_pos]
  refine allIt_iff.2 fun i hi => ?_
  rw [List.length_append] at hi
  rcases Nat.lt_or_ge i l.length with h | h
  · rw [appI_left h]; exact a1 i h
  · obtain ⟨j, rfl⟩ : ∃ j, i = l.length + j := ⟨i - l.length, by omega⟩
    rw [appI_right]; exact a2 j (by omega)
/-- What is left to say of two budgets together. -/
theorem join_end {l m : List It} (h : joinE l m = 0) : valE l = 0 ∧ valE m = 0 ∧ valE (joinG l m) = 0 ∧ FairP (totG l) ∧ FairP (totG m) ∧ totG (joinG l m) = low ((totG l).1 * (totG m).2 + (totG m).1 * (totG l).2) ((totG l).2 * (totG m).2) := by
  rcases join_cases l m with ⟨h1, h2, _⟩ | ⟨_, h1, h2, _⟩ | ⟨_, _, _, h2, _⟩ | ⟨h1, h1', h4, _, h3⟩
  · rw [h2] at h; exact absurd h h1
  · rw [h2] at h; exact absurd h h1
  · rw [h2] at h; cases h
  · have hv := val_app h1 h1' h4
    have t1 := (tot_facts h1).1
    have t2 := (tot_facts h1').1
    rw [h3, t1, t2, (tot_facts hv).1, parts_app, rat_plus]
    exact ⟨h1, h1', hv, fair_rat (parts_bound h1), fair_rat (parts_bound h1'), rfl⟩
theorem joinG_len (l m : List It) : (joinG l m).length ≤ l.length + m.length := by unfold joinG; split <;> simp
set_option maxRecDepth 100000 in
set_option maxHeartbeats 4000000 in
theorem budgetJoins_walk (A : Option Addr) (l : List It) (cap : Nat) (B : Option Addr) (m : List It) (cap2 : Nat) (w : World) (_hcap : l.length ≤ cap) (_hcap2 : m.length ≤ cap2) (hr : Rd w A (cellsI l)) (hs : Rd w B (cellsI m)) :
    Calls Try.prog 14 #[.slice A l.length cap, .slice B m.length cap2] w fun e w' => e = .returned (.bool true) ∧ Below w.heap.size w w' := by
  by_cases hL : 50 < l.length
  · have hd : decide (50 < l.length) = true := decide_eq_true hL
    go_enter Try.func14, Try.ntmps14
    go_wp2_with (fail)
    refine (Long_c _ _ _ _).mono ?_
    rintro e q1 ⟨rfl, rfl⟩
    rw [hd]
    go_wp2_with (fail)
    refine (known_c _).mono ?_
    rintro e w2 ⟨rfl, hb2⟩
    have hk2 := hb2
    go_wp2_with (fail)
    go_ret
    exact ⟨rfl, hk2⟩
  · have hd : decide (50 < l.length) = false := decide_eq_false hL
    by_cases hL2 : 50 < m.length
    · have hd2 : decide (50 < m.length) = true := decide_eq_true hL2
      go_enter Try.func14, Try.ntmps14
      go_wp2_with (fail)
      refine (Long_c _ _ _ _).mono ?_
      rintro e q1 ⟨rfl, rfl⟩
      rw [hd]
      go_wp2_with (fail)
      refine (Long_c _ _ _ _).mono ?_
      rintro e q2 ⟨rfl, rfl⟩
      rw [hd2]
      go_wp2_with (fail)
      refine (known_c _).mono ?_
      rintro e w3 ⟨rfl, hb3⟩
      have hk3 := hb3
      go_wp2_with (fail)
      go_ret
      exact ⟨rfl, hk3⟩
    · have hd2 : decide (50 < m.length) = false := decide_eq_false hL2
      have HS := fun w hr hs => Lib.hid (Join_c A B l m cap cap2 w (by omega) (by omega) hr hs)
      have HS2 := fun w hr hs => Lib.hid (rJoin_c A B l m cap cap2 w (by omega) (by omega) hr hs)
      have HT := fun w hr => Lib.hid (Total_c A l cap w (by omega) hr)
      have HT2 := fun w hr => Lib.hid (Total_c B m cap2 w (by omega) hr)
      have hsl := joinG_len l m
      have HSL : Hid ((joinG l m).length ≤ 1000) := by show _ ≤ _; omega
      have HT3 := fun A c w hr => Lib.hid (Total_c A (joinG l m) c w HSL.out hr)
      have HE := Lib.hid (@join_end l m)
      clear hsl
      generalize joinG l m = S at *
      generalize joinE l m = E at *
      generalize valE l = zl at *
      generalize valE m = zm at *
      generalize valE S = zs at *
      generalize totG l = t at *
      generalize totG m = t' at *
      generalize totG S = ts at *
      by_cases hE : E = 0
      · subst hE
        obtain ⟨rfl, rfl, rfl, g1, g2, g4⟩ := HE.out rfl
        have HFt := fun W => Lib.hid (fair2_c g1 W)
        have HFt' := fun W => Lib.hid (fair2_c g2 W)
        have p1 := mul_in (a := t.1) (b := t'.2) (A := 120960) (B := 2520) ⟨g1.n0, g1.n1⟩ ⟨by have := g2.d0; omega, g2.d1⟩
        have p2 := mul_in (a := t'.1) (b := t.2) (A := 120960) (B := 2520) ⟨g2.n0, g2.n1⟩ ⟨by have := g1.d0; omega, g1.d1⟩
        have p3 := mul_in (a := t.2) (b := t'.2) (A := 2520) (B := 2520) ⟨by have := g1.d0; omega, g1.d1⟩ ⟨by have := g2.d0; omega, g2.d1⟩
        have p4 := Int.mul_pos g1.d0 g2.d0
        have hR := fun W => rRatio_c (t.1 * t'.2 + t'.1 * t.2) (t.2 * t'.2) W ⟨by omega, by omega⟩ ⟨p4, by omega⟩
        rw [← g4] at hR
        have HR := Lib.hid hR
        have hw1 : Hid (IntKind.i64.wrap (t.1 * t'.2) = t.1 * t'.2) := (IntWalk.i64_left _).trans (IntWalk.wrap64_in _ ⟨by omega, by omega⟩)
        have hw2 : Hid (IntKind.i64.wrap (t'.1 * t.2) = t'.1 * t.2) := (IntWalk.i64_left _).trans (IntWalk.wrap64_in _ ⟨by omega, by omega⟩)
        have hw3 : Hid (IntKind.i64.wrap (t.2 * t'.2) = t.2 * t'.2) := (IntWalk.i64_left _).trans (IntWalk.wrap64_in _ ⟨by omega, by omega⟩)
        have hw4 : Hid (IntKind.i64.wrap (t.1 * t'.2 + t'.1 * t.2) = t.1 * t'.2 + t'.1 * t.2) := (IntWalk.i64_left _).trans (IntWalk.wrap64_in _ ⟨by omega, by omega⟩)
        clear hR p1 p2 p3 p4 g4 g1 g2 HE
        go_enter Try.func14, Try.ntmps14
        go_wp2_with (fail)
        refine (Long_c _ _ _ _).mono ?_
        rintro e q1 ⟨rfl, rfl⟩
        rw [hd]
        go_wp2_with (fail)
        refine (Long_c _ _ _ _).mono ?_
        rintro e q2 ⟨rfl, rfl⟩
        rw [hd2]
        go_wp2_with (fail)
        refine (HS _ hr hs).out.mono ?_
        rintro e w3 ⟨A1, c1, rfl, oa0, hb3⟩
        have hk3 := hb3
        have ra0 := (own_rd oa0).1
        clear oa0
        go_wp2_with (fail)
        refine (HS2 _ (hr.later hk3) (hs.later hk3)).out.mono ?_
        rintro e w4 ⟨A2, c2, rfl, ob0, hb4⟩
        have hk4 := bl_call hk3 hb4
        have ra4 := ra0.later hb4
        clear hk3 ra0
        have rb0 := (own_rd ob0).1
        clear ob0
        go_wp2_with (fail)
        refine (same_c _ _ _ _ _ _ (by have := HSL.out; omega) ra4 rb0).mono ?_
        rintro e w5 ⟨rfl, hb5⟩
        have hk5 := bl_call hk4 hb5
        have ra5 := ra4.later hb5
        have rb5 := rb0.later hb5
        clear hk4 ra4 rb0
        go_wp2_with (fail)
        refine ((HT _ (hr.later hk5)).out).mono ?_
        rintro e w6 ⟨rfl, hb6⟩
        have hk6 := bl_call hk5 hb6
        have ra6 := ra5.later hb6
        clear hk5 ra5
        have hn7 := bl_alloc (Below.refl w6.heap.size w6) (.cells #[.int .i64 t.1, .int .i64 t.2] 30)
        have y7 : Bx (w6.alloc (.cells #[.int .i64 t.1, .int .i64 t.2] 30)) w6.heap.size 30 #[.int .i64 t.1, .int .i64 t.2] := Bx.new w6 _ _
        have hk7 := bl_call hk6 hn7
        have ra7 := ra6.later hn7
        clear hk6 ra6
        clear hn7
        obtain ⟨ft0, ft1, _, _⟩ := y7.two
        go_wp2_with (fail)
        refine ((HT2 _ (hs.later hk7)).out).mono ?_
        rintro e w8 ⟨rfl, hb8⟩
        have hk8 := bl_call hk7 hb8
        have xt8 := y7.call hb8
        have ra8 := ra7.later hb8
        clear ft0 ft1 hk7 y7 ra7
        obtain ⟨ft0, ft1, _, _⟩ := xt8.two
        have hn9 := bl_alloc (Below.refl w8.heap.size w8) (.cells #[.int .i64 t'.1, .int .i64 t'.2] 30)
        have y9 : Bx (w8.alloc (.cells #[.int .i64 t'.1, .int .i64 t'.2] 30)) w8.heap.size 30 #[.int .i64 t'.1, .int .i64 t'.2] := Bx.new w8 _ _
        have hk9 := bl_call hk8 hn9
        have xt9 := xt8.call hn9
        have ra9 := ra8.later hn9
        clear ft0 ft1 hk8 xt8 ra8
        clear hn9
        obtain ⟨ft0, ft1, _, _⟩ := xt9.two
        obtain ⟨fu0, fu1, _, _⟩ := y9.two
        go_wp2_with (fail)
        refine ((HT3 _ _ _ ra9).out).mono ?_
        rintro e w10 ⟨rfl, hb10⟩
        have hk10 := bl_call hk9 hb10
        have xt10 := xt9.call hb10
        have xu10 := y9.call hb10
        have ra10 := ra9.later hb10
        clear ft0 ft1 fu0 fu1 hk9 xt9 y9 ra9
        obtain ⟨ft0, ft1, _, _⟩ := xt10.two
        obtain ⟨fu0, fu1, _, _⟩ := xu10.two
        have hn11 := bl_alloc (Below.refl w10.heap.size w10) (.cells #[.int .i64 ts.1, .int .i64 ts.2] 30)
        have y11 : Bx (w10.alloc (.cells #[.int .i64 ts.1, .int .i64 ts.2] 30)) w10.heap.size 30 #[.int .i64 ts.1, .int .i64 ts.2] := Bx.new w10 _ _
        have hk11 := bl_call hk10 hn11
        have xt11 := xt10.call hn11
        have xu11 := xu10.call hn11
        have ra11 := ra10.later hn11
        clear ft0 ft1 fu0 fu1 hk10 xt10 xu10 ra10
        clear hn11
        obtain ⟨ft0, ft1, _, _⟩ := xt11.two
        obtain ⟨fu0, fu1, _, _⟩ := xu11.two
        obtain ⟨fs0, fs1, _, _⟩ := y11.two
        go_wp2_with (fail)
        generalize (w10.alloc (.cells #[.int .i64 ts.1, .int .i64 ts.2] 30)) = W0 at *
        have hdr : Below W0.heap.size W0 W0.drew := (Below.refl _ _).drew
        have HC := Lib.hid (fun W (hW : Below W0.heap.size W0 W) => And.intro (xt11.call hW).two (And.intro (xu11.call hW).two (y11.call hW).two))
        clear ft0 ft1 fu0 fu1 fs0 fs1
        refine wp_region_low (hdr) (by kernel_rfl) (by kernel_rfl) ?_
        repeat (first
          | go_big_quiet_skip
          | (go_big_quiet_want
             apply Exists.intro
             refine And.intro (fun W hW => ?_) ?_
             · (obtain ⟨⟨p0, p1, _, _⟩, ⟨q0, q1, _, _⟩, s0, s1, _, _⟩ := HC.out W hW)
               go_simp
               first
                 | exact rfl
                 | (first | (with_reducible refine (HFt W).out.mono ?_; rintro e w1 ⟨rfl, hb1⟩; exact ⟨rfl, bl_call hW hb1⟩) | (with_reducible refine (HFt' W).out.mono ?_; rintro e w1 ⟨rfl, hb1⟩; exact ⟨rfl, bl_call hW hb1⟩) | (rw [hw1.out, hw2.out, hw4.out, hw3.out]; with_reducible refine (HR.out W).mono ?_; rintro e w1 ⟨rfl, hb1⟩; exact ⟨rfl, bl_call hW hb1⟩) | (with_reducible refine (known_c W).mono ?_; rintro e w1 ⟨rfl, hb1⟩; exact ⟨rfl, bl_call hW hb1⟩))
             try go_simp
             go_big_quiet_on))
        refine wpQuiet_nil ?_
        intro w99 hb99
        go_wp2_with (fail)
        go_ret
        exact ⟨rfl, bl_call hk11 hb99⟩
      · have hE' : (E == 0) = false := by rw [beq_eq_false_iff_ne]; exact hE
        go_enter Try.func14, Try.ntmps14
        go_wp2_with (fail)
        refine (Long_c _ _ _ _).mono ?_
        rintro e q1 ⟨rfl, rfl⟩
        rw [hd]
        go_wp2_with (fail)
        refine (Long_c _ _ _ _).mono ?_
        rintro e q2 ⟨rfl, rfl⟩
        rw [hd2]
        go_wp2_with (fail)
        refine (HS _ hr hs).out.mono ?_
        rintro e w3 ⟨A1, c1, rfl, oa0, hb3⟩
        have hk3 := hb3
        have ra0 := (own_rd oa0).1
        clear oa0
        go_wp2_with (fail)
        refine (HS2 _ (hr.later hk3) (hs.later hk3)).out.mono ?_
        rintro e w4 ⟨A2, c2, rfl, ob0, hb4⟩
        have hk4 := bl_call hk3 hb4
        have ra4 := ra0.later hb4
        clear hk3 ra0
        have rb0 := (own_rd ob0).1
        clear ob0
        go_wp2_with (fail)
        refine (same_c _ _ _ _ _ _ (by have := HSL.out; omega) ra4 rb0).mono ?_
        rintro e w5 ⟨rfl, hb5⟩
        have hk5 := bl_call hk4 hb5
        have ra5 := ra4.later hb5
        have rb5 := rb0.later hb5
        clear hk4 ra4 rb0
        go_wp2_with (fail)
        refine (known_c _).mono ?_
        rintro e w6 ⟨rfl, hb6⟩
        have hk6 := bl_call hk5 hb6
        have ra6 := ra5.later hb6
        clear hk5 ra5
        go_wp2_with (fail)
        go_ret
        exact ⟨rfl, hk6⟩
end Go.Proofs.Ytgbjglkiaoplmaa
