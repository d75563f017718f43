/- The walk of the law on two circuits together. -/
import Derived.Test.YteoajadcdjaalaaCatG
import Derived.Test.YteoajadcdjaalaaReducesW
namespace Go.Proofs.Yteoajadcdjaalaa
open Go.RowKit

theorem joinG_len (n : Int) (l m : List G) : (joinG n l m).length ≤ 10 := by
  by_cases h : joinE n l m = 0
  · obtain ⟨_, h1, h2⟩ := joinE_zero h
    rw [h2]; simpa using h1
  · rw [joinG, if_neg h]; simp
theorem validE_app {n : Int} {l m : List G} (hl : validE n l = 0) (hm : validE n m = 0) (h : l.length + m.length ≤ 10) : validE n (l ++ m) = 0 := by
  have hn : inB n 1 4 = true := inB_z.2 (validE_n hl)
  have hg : ∀ x ∈ l ++ m, gateB n x = true := fun x hx => (List.mem_append.1 hx).elim (validE_gates hl x) (validE_gates hm x)
  rw [validE, hn, if_pos rfl, if_pos (by simpa using h), gatesE, List.all_eq_true.2 hg]
  rfl
theorem join_red {n : Int} {l m : List G} (h : joinE n l m = 0) : validE n l = 0 ∧ validE n m = 0 ∧ joinE n (redL n l) (redL n m) = 0 ∧ equalB n (joinG n l m) (joinG n (redL n l) (redL n m)) = true ∧ bothE n (joinG n l m) (joinG n (redL n l) (redL n m)) = 0 := by
  obtain ⟨h0, h10, hj⟩ := joinE_zero h
  obtain ⟨hl, hm⟩ := bothE_zero h0
  have e1 : redL n l = reducedL l := by rw [redL, if_pos hl]
  have e2 : redL n m = reducedL m := by rw [redL, if_pos hm]
  have v1 := validE_red hl
  have v2 := validE_red hm
  have l1 : (reducedL l).length ≤ l.length := by rw [red_len]; exact shortL_len l
  have l2 : (reducedL m).length ≤ m.length := by rw [red_len]; exact shortL_len m
  have b2 : bothE n (reducedL l) (reducedL m) = 0 := by rw [bothE, if_pos v1, v2]
  have j2 : joinE n (reducedL l) (reducedL m) = 0 := by rw [joinE, if_pos b2, if_neg (by omega)]
  have hj2 := (joinE_zero j2).2.2
  have w1 := validE_app hl hm h10
  have w2 := validE_app v1 v2 (by omega)
  have b3 : bothE n (l ++ m) (reducedL l ++ reducedL m) = 0 := by rw [bothE, if_pos w1, w2]
  have hr : reducedL (l ++ m) = reducedL (reducedL l ++ reducedL m) := by
    refine red_alk ((short_join (validE_ang hl) (validE_ang hm)).trans ?_)
    exact short_alk (alk_app (alk_red l) (alk_red m))
  rw [e1, e2, hj, hj2]
  exact ⟨hl, hm, j2, by rw [equalB, b3, hr]; simp [sameL], b3⟩

set_option maxRecDepth 100000 in
set_option maxHeartbeats 4000000 in
theorem circuitJoins_walk (n : Int) (A : Option Addr) (l : List G) (c : Nat) (B : Option Addr) (m : List G) (d : Nat) (w : World) (_hn : (Lit.int .i64 n).wf = true) (hr : Rd w A (cellsG l)) (hs : Rd w B (cellsG m)) :
    Calls Try.prog 14 #[.int .i64 n, .slice A l.length c, .slice B m.length d] w fun e w' => e = .returned (.bool true) ∧ Below w.heap.size w w' := by
  have HL := fun w => Lib.hid (long_c A l.length c w)
  have HM := fun w => Lib.hid (long_c B m.length d w)
  have HK := fun w => Lib.hid (known_c w)
  by_cases hlong : 50 < l.length
  · rw [decide_eq_true hlong] at HL
    go_enter Try.func14, Try.ntmps14
    go_wp2_with (fail)
    refine (HL _).out.mono ?_
    rintro e w1 ⟨rfl, rfl⟩
    go_wp2_with (fail)
    refine (HK _).out.mono ?_
    rintro e w2 ⟨rfl, hb2⟩
    go_wp2_with (fail)
    go_ret
    exact ⟨rfl, hb2⟩
  · rw [decide_eq_false hlong] at HL
    by_cases hlong2 : 50 < m.length
    · rw [decide_eq_true hlong2] at HM
      go_enter Try.func14, Try.ntmps14
      go_wp2_with (fail)
      refine (HL _).out.mono ?_
      rintro e w1 ⟨rfl, rfl⟩
      go_wp2_with (fail)
      refine (HM _).out.mono ?_
      rintro e w1 ⟨rfl, rfl⟩
      go_wp2_with (fail)
      refine (HK _).out.mono ?_
      rintro e w2 ⟨rfl, hb2⟩
      go_wp2_with (fail)
      go_ret
      exact ⟨rfl, hb2⟩
    · rw [decide_eq_false hlong2] at HM
      have hlen : l.length ≤ 1000 := by omega
      have hlen' : m.length ≤ 1000 := by omega
      clear hlong hlong2
      have H1 := Lib.hid (Join_c n A B l m c d w hlen hlen' hr hs)
      have H2 := fun w1 h1 h2 => Lib.hid (rJoin_c n A B l m c d w1 hlen hlen' h1 h2)
      have H3 := fun w1 h1 => Lib.hid (Reduce_c n A l c w1 hlen h1)
      have H4 := fun w1 h1 => Lib.hid (Reduce_c n B m d w1 hlen' h1)
      have k1 := redL_len n hlen
      have k2 := redL_len n hlen'
      have k3 := joinG_len n l m
      have k4 := joinG_len n (redL n l) (redL n m)
      have H5 := fun A1 A2 c1 c2 w1 h1 h2 => Lib.hid (Join_c n A1 A2 (redL n l) (redL n m) c1 c2 w1 k1 k2 h1 h2)
      have H6 := fun A1 A2 c1 c2 w1 h1 h2 => Lib.hid (Equal_c n A1 A2 (joinG n l m) (joinG n (redL n l) (redL n m)) c1 c2 w1 (by omega) (by omega) h1 h2)
      have HV := Lib.hid (fun h => @join_red n l m h)
      generalize equalB n (joinG n l m) (joinG n (redL n l) (redL n m)) = eb at *
      generalize bothE n (joinG n l m) (joinG n (redL n l) (redL n m)) = ee at *
      generalize joinE n (redL n l) (redL n m) = e5 at *
      generalize joinG n (redL n l) (redL n m) = Z at *
      generalize joinE n l m = ev at *
      generalize joinG n l m = J at *
      generalize redL n l = X at *
      generalize redL n m = Y at *
      generalize validE n l = e1 at *
      generalize validE n m = e2 at *
      have HS := fun B1 B2 d1 d2 w1 h1 h2 => Lib.hid (same_c B1 B2 J J d1 d2 w1 (by omega) h1 h2)
      rw [show sameL J J = true by simp [sameL]] at HS
      go_enter Try.func14, Try.ntmps14
      go_wp2_with (fail)
      refine (HL _).out.mono ?_
      rintro e w1 ⟨rfl, rfl⟩
      go_wp2_with (fail)
      refine (HM _).out.mono ?_
      rintro e w1 ⟨rfl, rfl⟩
      go_wp2_with (fail)
      refine H1.out.mono ?_
      rintro e w1 ⟨A1, c1, rfl, ho1, hb1⟩
      go_wp2_with (fail)
      refine (H2 _ (hr.later hb1) (hs.later hb1)).out.mono ?_
      rintro e w2 ⟨A2, c2, rfl, ho2, hb2⟩
      have hb12 := bl_call hb1 hb2
      have hr1 := (own_rd ho1).1.later hb2
      have HS1 := HS A1 A2 c1 c2 w2 hr1 (own_rd ho2).1
      clear HS H1 H2
      go_wp2_with (fail)
      refine HS1.out.mono ?_
      rintro e w3 ⟨rfl, hb3⟩
      have hb13 := bl_call hb12 hb3
      clear HS1
      go_wp2_with (fail)
      refine (H3 _ (hr.later hb13)).out.mono ?_
      rintro e w4 ⟨A4, c4, rfl, ho4, hb4⟩
      have hb14 := bl_call hb13 hb4
      go_wp2_with (fail)
      refine (H4 _ (hs.later hb14)).out.mono ?_
      rintro e w5 ⟨A5, c5, rfl, ho5, hb5⟩
      have hb15 := bl_call hb14 hb5
      have hr15 := (hr1.later hb3).later (bl_call hb4 hb5)
      clear H3 H4
      by_cases hv : ev = 0
      · obtain ⟨rfl, rfl, rfl, rfl, rfl⟩ := HV.out hv
        subst hv
        have H5' := H5 A4 A5 c4 c5 w5 ((own_rd ho4).1.later hb5) (own_rd ho5).1
        clear HV H5
        go_wp2_with (fail)
        refine H5'.out.mono ?_
        rintro e w6 ⟨A6, c6, rfl, ho6, hb6⟩
        have hb16 := bl_call hb15 hb6
        have H6' := H6 A1 A6 c1 c6 w6 (hr15.later hb6) (own_rd ho6).1
        clear H6 H5'
        go_wp2_with (fail)
        refine H6'.out.mono ?_
        rintro e w7 ⟨rfl, hb7⟩
        have hb17 := bl_call hb16 hb7
        go_wp2_with (fail)
        refine (HK _).out.mono ?_
        rintro e w8 ⟨rfl, hb8⟩
        go_wp2_with (fail)
        go_ret
        exact ⟨rfl, bl_call hb17 hb8⟩
      · clear HV
        go_wp2_with (fail)
        refine (HK _).out.mono ?_
        rintro e w8 ⟨rfl, hb8⟩
        go_wp2_with (fail)
        go_ret
        exact ⟨rfl, bl_call hb15 hb8⟩
end Go.Proofs.Yteoajadcdjaalaa
