/- The walk of 'BudgetScales'. -/
import Derived.Test.YtgbjglkiaoplmaaSharesW
import Derived.Test.YtgbjglkiaoplmaaScl
namespace Go.Proofs.Ytgbjglkiaoplmaa
open Go.RowKit

theorem sc_facts {b : Int} {l : List It} (h : scE b l = 0) : valE l = 0 ∧ scL b l = l.map (scI b) ∧ ∀ k, k < l.length → scB b (l.getD k it0).u = true := by
  unfold scE at h
  split at h
  · rename_i h0
    split at h
    · rename_i h1; exact ⟨h0, (sc_all h0 h1).2, h1⟩
    · cases h
  · rename_i h0; exact absurd h h0
theorem mapI_get {f : It → It} {l : List It} {k : Nat} (hk : k < l.length) : (l.map f).getD k it0 = f (l.getD k it0) := by simp [hk]
theorem sc_val {b : Int} {l : List It} (h : valE l = 0) (ha : ∀ k, k < l.length → scB b (l.getD k it0).u = true) : valE (l.map (scI b)) = 0 := by
  obtain ⟨h1, h2⟩ := valE_ok h
  have hit : ∀ k, k < (l.map (scI b)).length → itB ((l.map (scI b)).getD k it0) = true := fun k hk => by
    rw [List.length_map] at hk
    rw [mapI_get hk]
    have i1 := itB_iff.1 (h2 k hk)
    have i2 : 1 ≤ b ∧ (l.getD k it0).u * b ≤ 8 := of_decide_eq_true (ha k hk)
    have i3 := Int.mul_le_mul_of_nonneg_right i1.1 (show 0 ≤ b by omega)
    exact itB_iff.2 ⟨by show 1 ≤ (l.getD k it0).u * b; omega, i2.2, i1.2.2⟩
  unfold valE
  rw [if_neg (by rw [List.length_map]; omega), if_pos]
  exact allIt_iff.2 hit
theorem sc_parts {b : Int} {l : List It} : ∀ k, k ≤ l.length → partsTo (l.map (scI b)) k = partsTo l k * b
  | 0, _ => by simp [partsTo]
  | k + 1, hk => by
    rw [partsTo, partsTo, sc_parts k (by omega), mapI_get (by omega), Int.add_mul]
    show _ + (l.getD k it0).u * b * part _ _ = _ + (l.getD k it0).u * part _ _ * b
    rw [Int.mul_assoc, Int.mul_comm b, ← Int.mul_assoc]
    rfl
/-- What is left to say of a budget with all uses multiplied. -/
theorem sc_end {b : Int} {l : List It} (h : scE b l = 0) (hl : 0 < l.length) : valE l = 0 ∧ valE (scL b l) = 0 ∧ (1 ≤ b ∧ b ≤ 8) ∧ FairP (totG l) ∧ totG (scL b l) = low ((totG l).1 * b) (totG l).2 := by
  obtain ⟨h1, h2, h3⟩ := sc_facts h
  have hv := sc_val h1 h3
  have i1 := itB_iff.1 ((valE_ok h1).2 0 hl)
  have i2 : 1 ≤ b ∧ (l.getD 0 it0).u * b ≤ 8 := of_decide_eq_true (h3 0 hl)
  have i3 := Int.mul_le_mul_of_nonneg_right i1.1 (show 0 ≤ b by omega)
  have ht := (tot_facts h1).1
  refine ⟨h1, by rw [h2]; exact hv, ⟨i2.1, by omega⟩, by rw [ht]; exact fair_rat (parts_bound h1), ?_⟩
  rw [h2, (tot_facts hv).1, ht]
  have hp : partsL (l.map (scI b)) = partsL l * b := by
    unfold partsL; rw [List.length_map, sc_parts _ (Nat.le_refl _)]
  rw [hp]
  refine (rat_of (rat_den _).1 ?_).symm
  have hc := rat_cross (partsL l)
  generalize (rat (partsL l)).1 = x at *
  generalize (rat (partsL l)).2 = y at *
  generalize partsL l = P at *
  rw [show x * b * 2520 = x * 2520 * b by grind, hc]
  grind
theorem scL_len (b : Int) (l : List It) : (scL b l).length ≤ l.length := by unfold scL; split <;> simp
set_option maxRecDepth 100000 in
set_option maxHeartbeats 4000000 in
theorem budgetScales_walk (A : Option Addr) (l : List It) (cap : Nat) (b : Int) (w : World) (_hcap : l.length ≤ cap) (hr : Rd w A (cellsI l)) (_hb : (Lit.int .i64 b).wf = true) :
    Calls Try.prog 15 #[.slice A l.length cap, .int .i64 b] w fun e w' => e = .returned (.bool true) ∧ Below w.heap.size w w' := by
  by_cases hL : 50 < l.length
  · have hd : decide (50 < l.length) = true := decide_eq_true hL
    go_enter Try.func15, Try.ntmps15
    go_wp2_with (fail)
    refine (Long_c _ _ _ _).mono ?_
    rintro e q1 ⟨rfl, rfl⟩
    rw [hd]
    go_wp2_with (fail)
    refine (known_c _).mono ?_
    rintro e w2 ⟨rfl, hb2⟩
    have hk2 := hb2
    go_wp2_with (fail)
    go_ret
    exact ⟨rfl, hk2⟩
  · have hd : decide (50 < l.length) = false := decide_eq_false hL
    have HS := fun w hr => Lib.hid (Scale_c A l cap b w (by omega) hr)
    have HS2 := fun w hr => Lib.hid (rScale_c A l cap b w (by omega) hr)
    have HT := fun w hr => Lib.hid (Total_c A l cap w (by omega) hr)
    have hsl := scL_len b l
    have HSL : Hid ((scL b l).length ≤ 1000) := by show _ ≤ _; omega
    have HT2 := fun A c w hr => Lib.hid (Total_c A (scL b l) c w HSL.out hr)
    have HE := Lib.hid (@sc_end b l)
    clear hsl
    generalize scL b l = S at *
    generalize scE b l = E at *
    generalize valE l = z at *
    generalize valE S = zs at *
    generalize totG l = t at *
    generalize totG S = ts at *
    by_cases hE : E = 0
    · subst hE
      by_cases hl : l.length = 0
      · have hl' : (l.length : Int) = 0 := by omega
        replace hl := Lib.hid hl
        go_enter Try.func15, Try.ntmps15
        go_wp2_with (fail)
        refine (Long_c _ _ _ _).mono ?_
        rintro e q1 ⟨rfl, rfl⟩
        rw [hd]
        go_wp2_with (fail)
        refine (HS _ hr).out.mono ?_
        rintro e w2 ⟨A1, c1, rfl, oa0, hb2⟩
        have hk2 := hb2
        have ra0 := (own_rd oa0).1
        clear oa0
        go_wp2_with (fail)
        refine (HS2 _ (hr.later hk2)).out.mono ?_
        rintro e w3 ⟨A2, c2, rfl, ob0, hb3⟩
        have hk3 := bl_call hk2 hb3
        have ra3 := ra0.later hb3
        clear hk2 ra0
        have rb0 := (own_rd ob0).1
        clear ob0
        go_wp2_with (fail)
        refine (same_c _ _ _ _ _ _ (by have := HSL.out; omega) ra3 rb0).mono ?_
        rintro e w4 ⟨rfl, hb4⟩
        have hk4 := bl_call hk3 hb4
        have ra4 := ra3.later hb4
        have rb4 := rb0.later hb4
        clear hk3 ra3 rb0
        go_wp2_with (fail)
        refine ((HT _ (hr.later hk4)).out).mono ?_
        rintro e w5 ⟨rfl, hb5⟩
        have hk5 := bl_call hk4 hb5
        have ra5 := ra4.later hb5
        clear hk4 ra4
        have hn6 := bl_alloc (Below.refl w5.heap.size w5) (.cells #[.int .i64 t.1, .int .i64 t.2] 30)
        have y6 : Bx (w5.alloc (.cells #[.int .i64 t.1, .int .i64 t.2] 30)) w5.heap.size 30 #[.int .i64 t.1, .int .i64 t.2] := Bx.new w5 _ _
        have hk6 := bl_call hk5 hn6
        have ra6 := ra5.later hn6
        clear hk5 ra5
        clear hn6
        obtain ⟨ft0, ft1, _, _⟩ := y6.two
        go_wp2_with (fail)
        refine ((HT2 _ _ _ ra6).out).mono ?_
        rintro e w7 ⟨rfl, hb7⟩
        have hk7 := bl_call hk6 hb7
        have xt7 := y6.call hb7
        have ra7 := ra6.later hb7
        clear ft0 ft1 hk6 y6 ra6
        obtain ⟨ft0, ft1, _, _⟩ := xt7.two
        have hn8 := bl_alloc (Below.refl w7.heap.size w7) (.cells #[.int .i64 ts.1, .int .i64 ts.2] 30)
        have y8 : Bx (w7.alloc (.cells #[.int .i64 ts.1, .int .i64 ts.2] 30)) w7.heap.size 30 #[.int .i64 ts.1, .int .i64 ts.2] := Bx.new w7 _ _
        have hk8 := bl_call hk7 hn8
        have xt8 := xt7.call hn8
        have ra8 := ra7.later hn8
        clear ft0 ft1 hk7 xt7 ra7
        clear hn8
        obtain ⟨ft0, ft1, _, _⟩ := xt8.two
        obtain ⟨fs0, fs1, _, _⟩ := y8.two
        go_wp2_with (fail)
        refine (known_c _).mono ?_
        rintro e w9 ⟨rfl, hb9⟩
        have hk9 := bl_call hk8 hb9
        have xt9 := xt8.call hb9
        have xs9 := y8.call hb9
        have ra9 := ra8.later hb9
        clear ft0 ft1 fs0 fs1 hk8 xt8 y8 ra8
        obtain ⟨ft0, ft1, _, _⟩ := xt9.two
        obtain ⟨fs0, fs1, _, _⟩ := xs9.two
        go_wp2_with (fail)
        go_ret
        exact ⟨rfl, hk9⟩
      · have hl' : ¬ (l.length : Int) = 0 := by omega
        obtain ⟨rfl, rfl, ⟨g1, g2⟩, g3, g4⟩ := HE.out rfl (by omega)
        have HFt := fun W => Lib.hid (fair2_c g3 W)
        have hp := mul_in (a := t.1) (b := b) (A := 120960) (B := 8) ⟨g3.n0, g3.n1⟩ ⟨by omega, g2⟩
        have hR := fun W => rRatio_c (t.1 * b) t.2 W ⟨hp.1, by omega⟩ ⟨g3.d0, by have := g3.d1; omega⟩
        rw [← g4] at hR
        have HR := Lib.hid hR
        have hw2 := Lib.hid ((IntWalk.i64_left (t.1 * b)).trans (IntWalk.wrap64_in _ ⟨by omega, by omega⟩))
        clear hR hp g4 g3 HE
        go_enter Try.func15, Try.ntmps15
        go_wp2_with (fail)
        refine (Long_c _ _ _ _).mono ?_
        rintro e q1 ⟨rfl, rfl⟩
        rw [hd]
        go_wp2_with (fail)
        refine (HS _ hr).out.mono ?_
        rintro e w2 ⟨A1, c1, rfl, oa0, hb2⟩
        have hk2 := hb2
        have ra0 := (own_rd oa0).1
        clear oa0
        go_wp2_with (fail)
        refine (HS2 _ (hr.later hk2)).out.mono ?_
        rintro e w3 ⟨A2, c2, rfl, ob0, hb3⟩
        have hk3 := bl_call hk2 hb3
        have ra3 := ra0.later hb3
        clear hk2 ra0
        have rb0 := (own_rd ob0).1
        clear ob0
        go_wp2_with (fail)
        refine (same_c _ _ _ _ _ _ (by have := HSL.out; omega) ra3 rb0).mono ?_
        rintro e w4 ⟨rfl, hb4⟩
        have hk4 := bl_call hk3 hb4
        have ra4 := ra3.later hb4
        have rb4 := rb0.later hb4
        clear hk3 ra3 rb0
        go_wp2_with (fail)
        refine ((HT _ (hr.later hk4)).out).mono ?_
        rintro e w5 ⟨rfl, hb5⟩
        have hk5 := bl_call hk4 hb5
        have ra5 := ra4.later hb5
        clear hk4 ra4
        have hn6 := bl_alloc (Below.refl w5.heap.size w5) (.cells #[.int .i64 t.1, .int .i64 t.2] 30)
        have y6 : Bx (w5.alloc (.cells #[.int .i64 t.1, .int .i64 t.2] 30)) w5.heap.size 30 #[.int .i64 t.1, .int .i64 t.2] := Bx.new w5 _ _
        have hk6 := bl_call hk5 hn6
        have ra6 := ra5.later hn6
        clear hk5 ra5
        clear hn6
        obtain ⟨ft0, ft1, _, _⟩ := y6.two
        go_wp2_with (fail)
        refine ((HT2 _ _ _ ra6).out).mono ?_
        rintro e w7 ⟨rfl, hb7⟩
        have hk7 := bl_call hk6 hb7
        have xt7 := y6.call hb7
        have ra7 := ra6.later hb7
        clear ft0 ft1 hk6 y6 ra6
        obtain ⟨ft0, ft1, _, _⟩ := xt7.two
        have hn8 := bl_alloc (Below.refl w7.heap.size w7) (.cells #[.int .i64 ts.1, .int .i64 ts.2] 30)
        have y8 : Bx (w7.alloc (.cells #[.int .i64 ts.1, .int .i64 ts.2] 30)) w7.heap.size 30 #[.int .i64 ts.1, .int .i64 ts.2] := Bx.new w7 _ _
        have hk8 := bl_call hk7 hn8
        have xt8 := xt7.call hn8
        have ra8 := ra7.later hn8
        clear ft0 ft1 hk7 xt7 ra7
        clear hn8
        obtain ⟨ft0, ft1, _, _⟩ := xt8.two
        obtain ⟨fs0, fs1, _, _⟩ := y8.two
        go_wp2_with (fail)
        generalize (w7.alloc (.cells #[.int .i64 ts.1, .int .i64 ts.2] 30)) = W0 at *
        have hdr : Below W0.heap.size W0 W0.drew := (Below.refl _ _).drew
        have HC := Lib.hid (fun W (hW : Below W0.heap.size W0 W) => And.intro (xt8.call hW).two (y8.call hW).two)
        clear ft0 ft1 fs0 fs1
        refine wp_region_low (hdr) (by kernel_rfl) (by kernel_rfl) ?_
        repeat (first
          | go_big_quiet_skip
          | (go_big_quiet_want
             apply Exists.intro
             refine And.intro (fun W hW => ?_) ?_
             · (obtain ⟨⟨p0, p1, _, _⟩, q0, q1, _, _⟩ := HC.out W hW)
               go_simp
               first
                 | exact rfl
                 | (first | (with_reducible refine (HFt W).out.mono ?_; rintro e w1 ⟨rfl, hb1⟩; exact ⟨rfl, bl_call hW hb1⟩) | (rw [hw2.out]; with_reducible refine (HR.out W).mono ?_; rintro e w1 ⟨rfl, hb1⟩; exact ⟨rfl, bl_call hW hb1⟩) | (with_reducible refine (known_c W).mono ?_; rintro e w1 ⟨rfl, hb1⟩; exact ⟨rfl, bl_call hW hb1⟩))
             try go_simp
             go_big_quiet_on))
        refine wpQuiet_nil ?_
        intro w99 hb99
        go_wp2_with (fail)
        go_ret
        exact ⟨rfl, bl_call hk8 hb99⟩
    · have hE' : (E == 0) = false := by rw [beq_eq_false_iff_ne]; exact hE
      go_enter Try.func15, Try.ntmps15
      go_wp2_with (fail)
      refine (Long_c _ _ _ _).mono ?_
      rintro e q1 ⟨rfl, rfl⟩
      rw [hd]
      go_wp2_with (fail)
      refine (HS _ hr).out.mono ?_
      rintro e w2 ⟨A1, c1, rfl, oa0, hb2⟩
      have hk2 := hb2
      have ra0 := (own_rd oa0).1
      clear oa0
      go_wp2_with (fail)
      refine (HS2 _ (hr.later hk2)).out.mono ?_
      rintro e w3 ⟨A2, c2, rfl, ob0, hb3⟩
      have hk3 := bl_call hk2 hb3
      have ra3 := ra0.later hb3
      clear hk2 ra0
      have rb0 := (own_rd ob0).1
      clear ob0
      go_wp2_with (fail)
      refine (same_c _ _ _ _ _ _ (by have := HSL.out; omega) ra3 rb0).mono ?_
      rintro e w4 ⟨rfl, hb4⟩
      have hk4 := bl_call hk3 hb4
      have ra4 := ra3.later hb4
      have rb4 := rb0.later hb4
      clear hk3 ra3 rb0
      go_wp2_with (fail)
      refine ((HT _ (hr.later hk4)).out).mono ?_
      rintro e w5 ⟨rfl, hb5⟩
      have hk5 := bl_call hk4 hb5
      have ra5 := ra4.later hb5
      clear hk4 ra4
      have hn6 := bl_alloc (Below.refl w5.heap.size w5) (.cells #[.int .i64 t.1, .int .i64 t.2] 30)
      have y6 : Bx (w5.alloc (.cells #[.int .i64 t.1, .int .i64 t.2] 30)) w5.heap.size 30 #[.int .i64 t.1, .int .i64 t.2] := Bx.new w5 _ _
      have hk6 := bl_call hk5 hn6
      have ra6 := ra5.later hn6
      clear hk5 ra5
      clear hn6
      obtain ⟨ft0, ft1, _, _⟩ := y6.two
      go_wp2_with (fail)
      refine ((HT2 _ _ _ ra6).out).mono ?_
      rintro e w7 ⟨rfl, hb7⟩
      have hk7 := bl_call hk6 hb7
      have xt7 := y6.call hb7
      have ra7 := ra6.later hb7
      clear ft0 ft1 hk6 y6 ra6
      obtain ⟨ft0, ft1, _, _⟩ := xt7.two
      have hn8 := bl_alloc (Below.refl w7.heap.size w7) (.cells #[.int .i64 ts.1, .int .i64 ts.2] 30)
      have y8 : Bx (w7.alloc (.cells #[.int .i64 ts.1, .int .i64 ts.2] 30)) w7.heap.size 30 #[.int .i64 ts.1, .int .i64 ts.2] := Bx.new w7 _ _
      have hk8 := bl_call hk7 hn8
      have xt8 := xt7.call hn8
      have ra8 := ra7.later hn8
      clear ft0 ft1 hk7 xt7 ra7
      clear hn8
      obtain ⟨ft0, ft1, _, _⟩ := xt8.two
      obtain ⟨fs0, fs1, _, _⟩ := y8.two
      go_wp2_with (fail)
      refine (known_c _).mono ?_
      rintro e w9 ⟨rfl, hb9⟩
      have hk9 := bl_call hk8 hb9
      have xt9 := xt8.call hb9
      have xs9 := y8.call hb9
      have ra9 := ra8.later hb9
      clear ft0 ft1 fs0 fs1 hk8 xt8 y8 ra8
      obtain ⟨ft0, ft1, _, _⟩ := xt9.two
      obtain ⟨fs0, fs1, _, _⟩ := xs9.two
      go_wp2_with (fail)
      go_ret
      exact ⟨rfl, hk9⟩
end Go.Proofs.Ytgbjglkiaoplmaa
