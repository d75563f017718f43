/- The walk of 'BudgetWithout'. -/
import Derived.Test.YtgbjglkiaoplmaaJoinsW
import Derived.Test.YtgbjglkiaoplmaaRdl
namespace Go.Proofs.Ytgbjglkiaoplmaa
open Go.RowKit

theorem valE_mem {l : List It} : valE l = 0 ↔ l.length ≤ 6 ∧ ∀ x ∈ l, itB x = true := by
  constructor
  · intro h
    obtain ⟨h1, h2⟩ := valE_ok h
    refine ⟨h1, fun x hx => ?_⟩
    obtain ⟨j, hj, rfl⟩ := List.getElem_of_mem hx
    have := h2 j hj
    simpa [hj] using this
  · rintro ⟨h1, h2⟩
    unfold valE
    rw [if_neg (by omega), if_pos]
    refine allIt_iff.2 fun i hi => h2 _ ?_
    have : l.getD i it0 = l[i] := by simp [hi]
    rw [this]; exact List.getElem_mem hi
theorem parts_cons (x : It) (t : List It) : partsL (x :: t) = shareP x + partsL t := by
  have := parts_app [x] t
  have h1 : partsL [x] = shareP x := by simp [partsL, partsTo]
  rw [h1] at this; exact this
theorem parts_erase {l : List It} {i : Nat} (hi : i < l.length) : partsL l = partsL (l.eraseIdx i) + shareP (l.getD i it0) := by
  have h1 : l.getD i it0 = l[i] := by simp [hi]
  rw [h1, List.eraseIdx_eq_take_drop_succ, parts_app]
  have h2 : l = l.take i ++ l[i] :: l.drop (i + 1) := by rw [← List.drop_eq_getElem_cons hi, List.take_append_drop]
  have h3 : partsL l = partsL (l.take i ++ l[i] :: l.drop (i + 1)) := by rw [← h2]
  rw [h3, parts_app, parts_cons]; omega
theorem mul_pos {a b : Int} (h1 : 0 < a) (h2 : 0 < b) : 0 < a * b := Int.mul_pos h1 h2
/-- What is left to say of a budget without an item. -/
theorem wit_end {l : List It} {k : Int} (h : witE l k = 0) : ∃ i : Nat, k = (i : Int) ∧ i < (shrL l).length ∧ valE l = 0 ∧ valE (witL l k) = 0 ∧ FairP (totG (witL l k)) ∧ FairP ((shrL l).getD i (0, 0)) ∧
    totG l = low ((totG (witL l k)).1 * ((shrL l).getD i (0, 0)).2 + ((shrL l).getD i (0, 0)).1 * (totG (witL l k)).2) ((totG (witL l k)).2 * ((shrL l).getD i (0, 0)).2) := by
  rcases witE_cases l k with ⟨h1, h2, _⟩ | ⟨_, h1, h2, _⟩ | ⟨hv, i, rfl, hi, hE, hL⟩
  · rw [h2] at h; exact absurd h h1
  · rw [h2] at h; cases h
  · have hve : valE (l.eraseIdx i) = 0 := by
      obtain ⟨a, b⟩ := valE_mem.1 hv
      exact valE_mem.2 ⟨by have := List.length_eraseIdx_le l i; omega, fun x hx => b x (List.mem_of_mem_eraseIdx hx)⟩
    have hs : shrL l = shrF l := by unfold shrL; rw [if_pos hv]
    refine ⟨i, rfl, by rw [hs, shrF_len]; exact hi, hv, by rw [hL]; exact hve, by rw [hL, (tot_facts hve).1]; exact fair_rat (parts_bound hve), ?_, ?_⟩
    · rw [hs, shrF_get hi]
      obtain ⟨s1, s2, s3⟩ := share_parts hv hi
      exact fair_rat ⟨s1, by omega⟩
    · rw [hL, hs, shrF_get hi, (tot_facts hve).1, (tot_facts hv).1, rat_plus, parts_erase hi]
theorem witL_len (l : List It) (k : Int) : (witL l k).length ≤ l.length := by
  unfold witL; split
  · exact List.length_eraseIdx_le _ _
  · simp
set_option maxRecDepth 100000 in
set_option maxHeartbeats 4000000 in
theorem budgetWithout_walk (A : Option Addr) (l : List It) (cap : Nat) (k : Int) (w : World) (hcap : l.length ≤ cap) (hr : Rd w A (cellsI l)) (_hk : (Lit.int .i64 k).wf = true) :
    Calls Try.prog 16 #[.slice A l.length cap, .int .i64 k] w fun e w' => e = .returned (.bool true) ∧ Below w.heap.size w w' := by
  by_cases hL : 50 < l.length
  · have hd : decide (50 < l.length) = true := decide_eq_true hL
    go_enter Try.func16, Try.ntmps16
    go_wp2_with (fail)
    refine (Long_c _ _ _ _).mono ?_
    rintro e q1 ⟨rfl, rfl⟩
    rw [hd]
    go_wp2_with (fail)
    refine (known_c _).mono ?_
    rintro e w2 ⟨rfl, hb2⟩
    have hk2 := hb2
    go_wp2_with (fail)
    go_ret
    exact ⟨rfl, hk2⟩
  · have hd : decide (50 < l.length) = false := decide_eq_false hL
    have HS := fun w hr => Lib.hid (Without_c A l cap k w (by omega) hr)
    have HS2 := fun w hr => Lib.hid (rWithout_c A l cap k w (by omega) hcap hr)
    have HH := fun w hr => Lib.hid (Shares_c A l cap w (by omega) hr)
    have HT := fun w hr => Lib.hid (Total_c A l cap w (by omega) hr)
    have hsl := witL_len l k
    have HSL : Hid ((witL l k).length ≤ 1000) := by show _ ≤ _; omega
    have HT2 := fun A c w hr => Lib.hid (Total_c A (witL l k) c w HSL.out hr)
    have HE := Lib.hid (@wit_end l k)
    clear hsl
    generalize witL l k = S at *
    generalize witE l k = E at *
    generalize shrL l = L at *
    generalize valE l = z at *
    generalize valE S = zs at *
    generalize totG l = t at *
    generalize totG S = ts at *
    by_cases hE : E = 0
    · subst hE
      obtain ⟨i, rfl, hiL, rfl, rfl, g1, g2, g4⟩ := HE.out rfl
      have hi1 : (i : Int) < (L.length : Int) := by omega
      have hi2 : ¬ (L.length : Int) ≤ (i : Int) := by omega
      have hi0 : ¬ (i : Int) < 0 := by omega
      have HFt := fun W => Lib.hid (fair2_c g1 W)
      have HFs := fun W => Lib.hid (fair2_c g2 W)
      have HFs0 := HFs
      generalize hp : L.getD i (0, 0) = p at *
      have Hp := Lib.hid hp
      clear hp HFs0
      have p1 := mul_in (a := ts.1) (b := p.2) (A := 120960) (B := 2520) ⟨g1.n0, g1.n1⟩ ⟨by have := g2.d0; omega, g2.d1⟩
      have p2 := mul_in (a := p.1) (b := ts.2) (A := 120960) (B := 2520) ⟨g2.n0, g2.n1⟩ ⟨by have := g1.d0; omega, g1.d1⟩
      have p3 := mul_in (a := ts.2) (b := p.2) (A := 2520) (B := 2520) ⟨by have := g1.d0; omega, g1.d1⟩ ⟨by have := g2.d0; omega, g2.d1⟩
      have p4 := Int.mul_pos g1.d0 g2.d0
      have hR := fun W => rRatio_c (ts.1 * p.2 + p.1 * ts.2) (ts.2 * p.2) W ⟨by omega, by omega⟩ ⟨p4, by omega⟩
      rw [← g4] at hR
      have HR := Lib.hid hR
      have hw1 : Hid (IntKind.i64.wrap (ts.1 * p.2) = ts.1 * p.2) := (IntWalk.i64_left _).trans (IntWalk.wrap64_in _ ⟨by omega, by omega⟩)
      have hw2 : Hid (IntKind.i64.wrap (p.1 * ts.2) = p.1 * ts.2) := (IntWalk.i64_left _).trans (IntWalk.wrap64_in _ ⟨by omega, by omega⟩)
      have hw3 : Hid (IntKind.i64.wrap (ts.2 * p.2) = ts.2 * p.2) := (IntWalk.i64_left _).trans (IntWalk.wrap64_in _ ⟨by omega, by omega⟩)
      have hw4 : Hid (IntKind.i64.wrap (ts.1 * p.2 + p.1 * ts.2) = ts.1 * p.2 + p.1 * ts.2) := (IntWalk.i64_left _).trans (IntWalk.wrap64_in _ ⟨by omega, by omega⟩)
      clear hR p1 p2 p3 p4 g4 g1 g2 HE
      go_enter Try.func16, Try.ntmps16
      go_wp2_with (fail)
      refine (Long_c _ _ _ _).mono ?_
      rintro e q1 ⟨rfl, rfl⟩
      rw [hd]
      go_wp2_with (fail)
      refine (HS _ hr).out.mono ?_
      rintro e w2 ⟨A1, c1, rfl, oa0, hb2⟩
      have hk2 := hb2
      have ra0 := (own_rd oa0).1
      clear oa0
      go_wp2_with (fail)
      refine (HS2 _ (hr.later hk2)).out.mono ?_
      rintro e w3 ⟨A2, c2, rfl, ob0, hb3⟩
      have hk3 := bl_call hk2 hb3
      have ra3 := ra0.later hb3
      clear hk2 ra0
      have rb0 := (own_rd ob0).1
      clear ob0
      go_wp2_with (fail)
      refine (same_c _ _ _ _ _ _ (by have := HSL.out; omega) ra3 rb0).mono ?_
      rintro e w4 ⟨rfl, hb4⟩
      have hk4 := bl_call hk3 hb4
      have ra4 := ra3.later hb4
      have rb4 := rb0.later hb4
      clear hk3 ra3 rb0
      go_wp2_with (fail)
      refine ((HH _ (hr.later hk4)).out).mono ?_
      rintro e w5 ⟨A3, c3, rfl, rs0, hb5⟩
      have hk5 := bl_call hk4 hb5
      have ra5 := ra4.later hb5
      clear hk4 ra4
      go_wp2_with (fail)
      refine ((HT _ (hr.later hk5)).out).mono ?_
      rintro e w6 ⟨rfl, hb6⟩
      have hk6 := bl_call hk5 hb6
      have ra6 := ra5.later hb6
      have rs6 := rs0.later hb6
      clear hk5 ra5 rs0
      have hn7 := bl_alloc (Below.refl w6.heap.size w6) (.cells #[.int .i64 t.1, .int .i64 t.2] 30)
      have y7 : Bx (w6.alloc (.cells #[.int .i64 t.1, .int .i64 t.2] 30)) w6.heap.size 30 #[.int .i64 t.1, .int .i64 t.2] := Bx.new w6 _ _
      have hk7 := bl_call hk6 hn7
      have ra7 := ra6.later hn7
      have rs7 := rs6.later hn7
      clear hk6 ra6 rs6
      clear hn7
      obtain ⟨ft0, ft1, _, _⟩ := y7.two
      go_wp2_with (fail)
      refine ((HT2 _ _ _ ra7).out).mono ?_
      rintro e w8 ⟨rfl, hb8⟩
      have hk8 := bl_call hk7 hb8
      have xt8 := y7.call hb8
      have ra8 := ra7.later hb8
      have rs8 := rs7.later hb8
      clear ft0 ft1 hk7 y7 ra7 rs7
      obtain ⟨ft0, ft1, _, _⟩ := xt8.two
      have hn9 := bl_alloc (Below.refl w8.heap.size w8) (.cells #[.int .i64 ts.1, .int .i64 ts.2] 30)
      have y9 : Bx (w8.alloc (.cells #[.int .i64 ts.1, .int .i64 ts.2] 30)) w8.heap.size 30 #[.int .i64 ts.1, .int .i64 ts.2] := Bx.new w8 _ _
      have hk9 := bl_call hk8 hn9
      have xt9 := xt8.call hn9
      have ra9 := ra8.later hn9
      have rs9 := rs8.later hn9
      clear ft0 ft1 hk8 xt8 ra8 rs8
      clear hn9
      obtain ⟨ft0, ft1, _, _⟩ := xt9.two
      obtain ⟨fu0, fu1, _, _⟩ := y9.two
      obtain ⟨b, o, rfl, hbl, c0, c1⟩ := rs9.rt hiL
      rw [Hp.out] at c0 c1
      go_wp2_with (fail)
      refine ((HFs _).out).mono ?_
      rintro e w10 ⟨rfl, hb10⟩
      have hk10 := bl_call hk9 hb10
      have xt10 := xt9.call hb10
      have xu10 := y9.call hb10
      have ra10 := ra9.later hb10
      have rs10 := rs9.later hb10
      clear ft0 ft1 fu0 fu1 c0 c1 hk9 xt9 y9 ra9 rs9
      obtain ⟨ft0, ft1, _, _⟩ := xt10.two
      obtain ⟨fu0, fu1, _, _⟩ := xu10.two
      obtain ⟨b', o', he, hbl', c0, c1⟩ := rs10.rt hiL
      cases he
      rw [Hp.out] at c0 c1
      go_wp2_with (fail)
      refine ((HFt _).out).mono ?_
      rintro e w11 ⟨rfl, hb11⟩
      have hk11 := bl_call hk10 hb11
      have xt11 := xt10.call hb11
      have xu11 := xu10.call hb11
      have ra11 := ra10.later hb11
      have rs11 := rs10.later hb11
      clear ft0 ft1 fu0 fu1 c0 c1 hk10 xt10 xu10 ra10 rs10
      obtain ⟨ft0, ft1, _, _⟩ := xt11.two
      obtain ⟨fu0, fu1, _, _⟩ := xu11.two
      obtain ⟨b', o', he, hbl', c0, c1⟩ := rs11.rt hiL
      cases he
      rw [Hp.out] at c0 c1
      go_wp2_with (fail)
      have hdr : Below w11.heap.size w11 w11.drew := (Below.refl _ _).drew
      have HC := Lib.hid (fun W (hW : Below w11.heap.size w11 W) => And.intro (xt11.call hW).two (And.intro (xu11.call hW).two (And.intro ((hW.cell (p := ⟨b, o + i * 2, none⟩) hbl').trans c0) ((hW.cell (p := ⟨b, o + i * 2 + 1, none⟩) hbl').trans c1))))
      clear ft0 ft1 fu0 fu1 c0 c1
      refine wp_region_low (hdr) (by kernel_rfl) (by kernel_rfl) ?_
      repeat (first
        | go_big_quiet_skip
        | (go_big_quiet_want
           apply Exists.intro
           refine And.intro (fun W hW => ?_) ?_
           · (obtain ⟨⟨p0, p1, _, _⟩, ⟨q0, q1, _, _⟩, s0, s1⟩ := HC.out W hW)
             go_simp
             first
               | exact rfl
               | (first | (rw [hw1.out, hw2.out, hw4.out, hw3.out]; with_reducible refine (HR.out W).mono ?_; rintro e w1 ⟨rfl, hb1⟩; exact ⟨rfl, bl_call hW hb1⟩) | (with_reducible refine (known_c W).mono ?_; rintro e w1 ⟨rfl, hb1⟩; exact ⟨rfl, bl_call hW hb1⟩))
           try go_simp
           go_big_quiet_on))
      refine wpQuiet_nil ?_
      intro w99 hb99
      go_wp2_with (fail)
      go_ret
      exact ⟨rfl, bl_call hk11 hb99⟩
    · have hE' : (E == 0) = false := by rw [beq_eq_false_iff_ne]; exact hE
      go_enter Try.func16, Try.ntmps16
      go_wp2_with (fail)
      refine (Long_c _ _ _ _).mono ?_
      rintro e q1 ⟨rfl, rfl⟩
      rw [hd]
      go_wp2_with (fail)
      refine (HS _ hr).out.mono ?_
      rintro e w2 ⟨A1, c1, rfl, oa0, hb2⟩
      have hk2 := hb2
      have ra0 := (own_rd oa0).1
      clear oa0
      go_wp2_with (fail)
      refine (HS2 _ (hr.later hk2)).out.mono ?_
      rintro e w3 ⟨A2, c2, rfl, ob0, hb3⟩
      have hk3 := bl_call hk2 hb3
      have ra3 := ra0.later hb3
      clear hk2 ra0
      have rb0 := (own_rd ob0).1
      clear ob0
      go_wp2_with (fail)
      refine (same_c _ _ _ _ _ _ (by have := HSL.out; omega) ra3 rb0).mono ?_
      rintro e w4 ⟨rfl, hb4⟩
      have hk4 := bl_call hk3 hb4
      have ra4 := ra3.later hb4
      have rb4 := rb0.later hb4
      clear hk3 ra3 rb0
      go_wp2_with (fail)
      refine ((HH _ (hr.later hk4)).out).mono ?_
      rintro e w5 ⟨A3, c3, rfl, rs0, hb5⟩
      have hk5 := bl_call hk4 hb5
      have ra5 := ra4.later hb5
      clear hk4 ra4
      go_wp2_with (fail)
      refine ((HT _ (hr.later hk5)).out).mono ?_
      rintro e w6 ⟨rfl, hb6⟩
      have hk6 := bl_call hk5 hb6
      have ra6 := ra5.later hb6
      have rs6 := rs0.later hb6
      clear hk5 ra5 rs0
      have hn7 := bl_alloc (Below.refl w6.heap.size w6) (.cells #[.int .i64 t.1, .int .i64 t.2] 30)
      have y7 : Bx (w6.alloc (.cells #[.int .i64 t.1, .int .i64 t.2] 30)) w6.heap.size 30 #[.int .i64 t.1, .int .i64 t.2] := Bx.new w6 _ _
      have hk7 := bl_call hk6 hn7
      have ra7 := ra6.later hn7
      have rs7 := rs6.later hn7
      clear hk6 ra6 rs6
      clear hn7
      obtain ⟨ft0, ft1, _, _⟩ := y7.two
      go_wp2_with (fail)
      refine ((HT2 _ _ _ ra7).out).mono ?_
      rintro e w8 ⟨rfl, hb8⟩
      have hk8 := bl_call hk7 hb8
      have xt8 := y7.call hb8
      have ra8 := ra7.later hb8
      have rs8 := rs7.later hb8
      clear ft0 ft1 hk7 y7 ra7 rs7
      obtain ⟨ft0, ft1, _, _⟩ := xt8.two
      have hn9 := bl_alloc (Below.refl w8.heap.size w8) (.cells #[.int .i64 ts.1, .int .i64 ts.2] 30)
      have y9 : Bx (w8.alloc (.cells #[.int .i64 ts.1, .int .i64 ts.2] 30)) w8.heap.size 30 #[.int .i64 ts.1, .int .i64 ts.2] := Bx.new w8 _ _
      have hk9 := bl_call hk8 hn9
      have xt9 := xt8.call hn9
      have ra9 := ra8.later hn9
      have rs9 := rs8.later hn9
      clear ft0 ft1 hk8 xt8 ra8 rs8
      clear hn9
      obtain ⟨ft0, ft1, _, _⟩ := xt9.two
      obtain ⟨fu0, fu1, _, _⟩ := y9.two
      go_wp2_with (fail)
      refine (known_c _).mono ?_
      rintro e w10 ⟨rfl, hb10⟩
      have hk10 := bl_call hk9 hb10
      have xt10 := xt9.call hb10
      have xu10 := y9.call hb10
      have ra10 := ra9.later hb10
      have rs10 := rs9.later hb10
      clear ft0 ft1 fu0 fu1 hk9 xt9 y9 ra9 rs9
      obtain ⟨ft0, ft1, _, _⟩ := xt10.two
      obtain ⟨fu0, fu1, _, _⟩ := xu10.two
      go_wp2_with (fail)
      go_ret
      exact ⟨rfl, hk10⟩
end Go.Proofs.Ytgbjglkiaoplmaa
