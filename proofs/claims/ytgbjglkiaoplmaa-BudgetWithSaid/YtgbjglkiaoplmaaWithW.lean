/- The walk of 'BudgetWith'. -/
import Derived.Test.YtgbjglkiaoplmaaSharesW
import Derived.Test.YtgbjglkiaoplmaaWtc
import Derived.Test.YtgbjglkiaoplmaaScl
namespace Go.Proofs.Ytgbjglkiaoplmaa
open Go.RowKit

theorem wt_facts {l : List It} {fs : List Fx} {c : List Int} (h : wtE l fs c = 0) : valE l = 0 ∧ valE (wtL l fs c) = 0 ∧ FairP (totG l) ∧ FairP (totG (wtL l fs c)) ∧ (totG (wtL l fs c)).1 * (totG l).2 ≤ (totG l).1 * (totG (wtL l fs c)).2 := by
  have hL : wtL l fs c = (withL l fs c).1 := by unfold wtL; rw [if_pos h]
  rw [hL]
  unfold wtE at h
  split at h
  · rename_i hv
    have hc := cho_iff.1 h
    have h1 := (vfE_ok hv).1
    obtain ⟨g1, g2, _⟩ := with_ok hv hc
    refine ⟨h1, g1, by rw [(tot_facts h1).1]; exact fair_rat (parts_bound h1), by rw [(tot_facts g1).1]; exact fair_rat (parts_bound g1), ?_⟩
    rw [(tot_facts h1).1, (tot_facts g1).1]
    have := rat_lt (partsL l) (partsL (withL l fs c).1)
    omega
  · rename_i hv; exact absurd h hv
theorem wtL_len (l : List It) (fs : List Fx) (c : List Int) : (wtL l fs c).length ≤ l.length := by
  unfold wtL; split
  · rw [withL_len]; exact Nat.le_refl _
  · simp
def negI (x : It) : It := ⟨-1, x.n, x.d⟩
set_option maxRecDepth 100000 in
set_option maxHeartbeats 4000000 in
theorem budgetWith_walk (A : Option Addr) (l : List It) (cap : Nat) (B : Option Addr) (fs : List Fx) (cap2 : Nat) (C : Option Addr) (c : List Int) (cap3 : Nat) (w : World) (_hcap : l.length ≤ cap) (_hcap2 : fs.length ≤ cap2) (_hcap3 : c.length ≤ cap3) (hr : Rd w A (cellsI l)) (hs : Rd w B (cellsF fs)) (hc : Rd w C (ints c)) :
    Calls Try.prog 7 #[.slice A l.length cap, .slice B fs.length cap2, .slice C c.length cap3] w fun f w' => f = .returned (.bool true) ∧ Below w.heap.size w w' := by
  by_cases hL : 50 < l.length
  · have hd : decide (50 < l.length) = true := decide_eq_true hL
    go_enter Try.func7, Try.ntmps7
    go_wp2_with (fail)
    refine (Long_c _ _ _ _).mono ?_
    rintro e q1 ⟨rfl, rfl⟩
    rw [hd]
    go_wp2_with (fail)
    refine (known_c _).mono ?_
    rintro e w2 ⟨rfl, hb2⟩
    have hk2 := hb2
    go_wp2_with (fail)
    go_ret
    exact ⟨rfl, hk2⟩
  · have hd : decide (50 < l.length) = false := decide_eq_false hL
    by_cases hL2 : 50 < fs.length
    · have hL3 : (50 : Int) < (fs.length : Int) := by omega
      go_enter Try.func7, Try.ntmps7
      go_wp2_with (fail)
      refine (Long_c _ _ _ _).mono ?_
      rintro e q1 ⟨rfl, rfl⟩
      rw [hd]
      go_wp2_with (fail)
      refine (known_c _).mono ?_
      rintro e w2 ⟨rfl, hb2⟩
      have hk2 := hb2
      go_wp2_with (fail)
      go_ret
      exact ⟨rfl, hk2⟩
    · have hL3 : ¬ (50 : Int) < (fs.length : Int) := by omega
      by_cases hL4 : 50 < c.length
      · have hL5 : (50 : Int) < (c.length : Int) := by omega
        go_enter Try.func7, Try.ntmps7
        go_wp2_with (fail)
        refine (Long_c _ _ _ _).mono ?_
        rintro e q1 ⟨rfl, rfl⟩
        rw [hd]
        go_wp2_with (fail)
        refine (known_c _).mono ?_
        rintro e w2 ⟨rfl, hb2⟩
        have hk2 := hb2
        go_wp2_with (fail)
        go_ret
        exact ⟨rfl, hk2⟩
      · have hL5 : ¬ (50 : Int) < (c.length : Int) := by omega
        have hXb : Below w.heap.size w (w.alloc (.cells #[] 50)) := bl_alloc (Below.refl _ _) _
        obtain ⟨A', c', w1, hE1, hown, g1⟩ := append_items w.heap.size (w.alloc (.cells #[] 50)) _ [] A l cap (own_emptyI (Nat.le_refl _) (Bx.new w _ _)) (hr.later hXb) (by simp) (by omega) hXb.size
        have hkw := hXb.trans g1
        simp only [List.length_nil, Nat.zero_add, List.nil_append] at hE1 hown
        have E1 := Lib.hid hE1
        have ro0 := (own_rd hown).1
        have hr1 := hr.later hkw
        have hs1 := hs.later hkw
        have hc1 := hc.later hkw
        have hro := Lib.hid ro0
        clear hE1 g1 hXb hown hr hs hc
        have HA := fun A cap w hr hs hc => Lib.hid (With_c A l cap B fs cap2 C c cap3 w (by omega) (by omega) (by omega) hr hs hc)
        have HR := fun w hr hs hc => Lib.hid (rWith_c A l cap B fs cap2 C c cap3 w (by omega) (by omega) (by omega) hr hs hc)
        have HV := fun w hr hs => Lib.hid (ValidateFixes_c A l cap B fs cap2 w (by omega) (by omega) hr hs)
        have HV2 := fun w hr hs => Lib.hid (rValidateFixes_c A l cap B fs cap2 w (by omega) (by omega) hr hs)
        have HT := fun w hr => Lib.hid (Total_c A l cap w (by omega) hr)
        have HSL : Hid ((wtL l fs c).length ≤ 50) := by have := wtL_len l fs c; show _ ≤ _; omega
        have HT2 := fun A c' w hr => Lib.hid (Total_c A (wtL l fs c) c' w (by have := HSL.out; omega) hr)
        have HF := Lib.hid (@wt_facts l fs c)
        generalize wtL l fs c = S at *
        generalize wtK l fs c = k at *
        generalize wtE l fs c = E at *
        generalize vfE l fs = vf at *
        generalize valE l = z at *
        generalize valE S = zs at *
        generalize totG l = t at *
        generalize totG S = ts at *
        by_cases hE : E = 0
        · subst hE
          obtain ⟨rfl, rfl, f1, f2, f3⟩ := HF.out rfl
          have HFt := fun W => Lib.hid (fair2_c f1 W)
          have HFs := fun W => Lib.hid (fair2_c f2 W)
          have HLs := fun W => Lib.hid (lless2_c f1 f2 (by omega) W)
          clear f1 f2 f3 HF
          go_enter Try.func7, Try.ntmps7
          go_wp2_with (fail)
          refine (Long_c _ _ _ _).mono ?_
          rintro e q1 ⟨rfl, rfl⟩
          rw [hd]
          go_wp2_with (at_builtin; refine wpList_append_eq rfl _ _ 22 rfl _ _ _ w1 rfl rfl E1.out ?_)
          refine (HA _ _ _ ro0 hs1 hc1).out.mono ?_
          rintro e w2 ⟨A1, c1, rfl, oa0, hb2⟩
          have hk2 := hb2
          have ro2 := ro0.later hb2
          clear ro0
          go_wp2_with (fail)
          refine (HR _ (hr1.later hk2) (hs1.later hk2) (hc1.later hk2)).out.mono ?_
          rintro e w3 ⟨A2, c2, rfl, ob0, hb3⟩
          have hk3 := bl_call hk2 hb3
          have ro3 := ro2.later hb3
          have oa3 := own_call oa0 hb3
          clear hk2 ro2 oa0
          have rb0 := (own_rd ob0).1
          clear ob0
          go_wp2_with (fail)
          refine ((HV _ (hr1.later hk3) (hs1.later hk3)).out).mono ?_
          rintro e w4 ⟨rfl, hb4⟩
          have hk4 := bl_call hk3 hb4
          have ro4 := ro3.later hb4
          have rb4 := rb0.later hb4
          have oa4 := own_call oa3 hb4
          clear hk3 ro3 rb0 oa3
          go_wp2_with (fail)
          refine ((HV2 _ (hr1.later hk4) (hs1.later hk4)).out).mono ?_
          rintro e w5 ⟨rfl, hb5⟩
          have hk5 := bl_call hk4 hb5
          have ro5 := ro4.later hb5
          have rb5 := rb4.later hb5
          have oa5 := own_call oa4 hb5
          clear hk4 ro4 rb4 oa4
          go_wp2_with (fail)
          refine (same_c _ _ _ _ _ _ (by have := HSL.out; omega) (own_rd oa5).1 rb5).mono ?_
          rintro e w6 ⟨rfl, hb6⟩
          have hk6 := bl_call hk5 hb6
          have ro6 := ro5.later hb6
          have rb6 := rb5.later hb6
          have oa6 := own_call oa5 hb6
          clear hk5 ro5 rb5 oa5
          clear rb6
          go_wp2_with (fail)
          refine ((HT _ (hr1.later hk6)).out).mono ?_
          rintro e w7 ⟨rfl, hb7⟩
          have hk7 := bl_call hk6 hb7
          have ro7 := ro6.later hb7
          have oa7 := own_call oa6 hb7
          clear hk6 ro6 oa6
          have hn8 := bl_alloc (Below.refl w7.heap.size w7) (.cells #[.int .i64 t.1, .int .i64 t.2] 30)
          have y8 : Bx (w7.alloc (.cells #[.int .i64 t.1, .int .i64 t.2] 30)) w7.heap.size 30 #[.int .i64 t.1, .int .i64 t.2] := Bx.new w7 _ _
          have hk8 := bl_call hk7 hn8
          have ro8 := ro7.later hn8
          have oa8 := own_call oa7 hn8
          clear hk7 ro7 oa7
          clear hn8
          obtain ⟨ft0, ft1, _, _⟩ := y8.two
          go_wp2_with (fail)
          refine ((HT2 _ _ _ (own_rd oa8).1).out).mono ?_
          rintro e w9 ⟨rfl, hb9⟩
          have hk9 := bl_call hk8 hb9
          have xt9 := y8.call hb9
          have ro9 := ro8.later hb9
          have oa9 := own_call oa8 hb9
          clear ft0 ft1 hk8 y8 ro8 oa8
          obtain ⟨ft0, ft1, _, _⟩ := xt9.two
          have hn10 := bl_alloc (Below.refl w9.heap.size w9) (.cells #[.int .i64 ts.1, .int .i64 ts.2] 30)
          have y10 : Bx (w9.alloc (.cells #[.int .i64 ts.1, .int .i64 ts.2] 30)) w9.heap.size 30 #[.int .i64 ts.1, .int .i64 ts.2] := Bx.new w9 _ _
          have hk10 := bl_call hk9 hn10
          have xt10 := xt9.call hn10
          have ro10 := ro9.later hn10
          have oa10 := own_call oa9 hn10
          clear ft0 ft1 hk9 xt9 ro9 oa9
          clear hn10
          obtain ⟨ft0, ft1, _, _⟩ := xt10.two
          obtain ⟨fs0, fs1, _, _⟩ := y10.two
          go_wp2_with (fail)
          refine ((HFt _).out).mono ?_
          rintro e w11 ⟨rfl, hb11⟩
          have hk11 := bl_call hk10 hb11
          have xt11 := xt10.call hb11
          have xs11 := y10.call hb11
          have ro11 := ro10.later hb11
          have oa11 := own_call oa10 hb11
          clear ft0 ft1 fs0 fs1 hk10 xt10 y10 ro10 oa10
          obtain ⟨ft0, ft1, _, _⟩ := xt11.two
          obtain ⟨fs0, fs1, _, _⟩ := xs11.two
          go_wp2_with (fail)
          refine ((HFs _).out).mono ?_
          rintro e w12 ⟨rfl, hb12⟩
          have hk12 := bl_call hk11 hb12
          have xt12 := xt11.call hb12
          have xs12 := xs11.call hb12
          have ro12 := ro11.later hb12
          have oa12 := own_call oa11 hb12
          clear ft0 ft1 fs0 fs1 hk11 xt11 xs11 ro11 oa11
          obtain ⟨ft0, ft1, _, _⟩ := xt12.two
          obtain ⟨fs0, fs1, _, _⟩ := xs12.two
          go_wp2_with (fail)
          refine ((HLs _).out).mono ?_
          rintro e w13 ⟨rfl, hb13⟩
          have hk13 := bl_call hk12 hb13
          have xt13 := xt12.call hb13
          have xs13 := xs12.call hb13
          have ro13 := ro12.later hb13
          have oa13 := own_call oa12 hb13
          clear ft0 ft1 fs0 fs1 hk12 xt12 xs12 ro12 oa12
          obtain ⟨ft0, ft1, _, _⟩ := xt13.two
          obtain ⟨fs0, fs1, _, _⟩ := xs13.two
          go_wp2_with (fail)
          clear ft0 ft1 fs0 fs1
          have hoa := own_base oa13 (Nat.le_refl _)
          go_loopg [18] S.length (fun gk iv wr => ∃ j : Nat, Hid (j + gk = S.length) ∧ iv = .int .i64 (j : Int) ∧ wr.ownsRow w1.heap.size 50 3 (.slice A1 S.length c1) S.length (cellsI (mapK negI S j)) ∧ Below w1.heap.size w1 wr)
          case atStart => exact ⟨0, by simp [Hid], rfl, by rw [mapK_zero]; exact hoa, by first | exact hk13 | exact bl_call (Below.refl _ _) hk13⟩
          case round =>
            obtain ⟨j, HJ, rfl, hown, hb⟩ := hrel
            rcases gk with _ | gi
            · obtain rfl : j = S.length := HJ.out
              go_wp2_with (fail)
              refine (same_c _ _ _ _ _ _ (by omega) (hro.out.later hb) (hr1.later hb)).mono ?_
              rintro e w91 ⟨rfl, hb91⟩
              have hk91 := bl_call hb hb91
              clear hb
              go_wp2_with (fail)
              refine (known_c _).mono ?_
              rintro e w92 ⟨rfl, hb92⟩
              have hk92 := bl_call hk91 hb92
              clear hk91
              go_wp2_with (fail)
              go_ret
              exact ⟨rfl, bl_call hkw hk92⟩
            · have hjl : j < S.length := by have := HJ.out; omega
              have hjl' : (j : Int) < (S.length : Int) := by omega
              have hSl := HSL.out
              obtain ⟨g, rfl, hbg, hgl, q1, q2, hput⟩ := own_putU hown (mapK_len _ _ _) hjl
              have hput2 := hput (-1)
              rw [mapK_get hjl] at hput2
              have hS2 : (mapK negI S j).set j ⟨-1, (S.getD j it0).n, (S.getD j it0).d⟩ = mapK negI S (j + 1) := mapK_set (f := negI) hjl
              rw [hS2] at hput2
              have HP := Lib.hid hput2
              have hbs := Lib.hid (hb.setCell (p := ⟨g, j * 3, none⟩) hbg (.int .i64 (-1)))
              clear hput hput2 hS2 hown
              go_wp2_with (fail)
              go_roundg gi
              case rel => exact ⟨j + 1, by have := HJ.out; show _ = _; omega, by go_num, HP.out, hbs.out⟩
              case measure => omega
        · have hE' : (E == 0) = false := by rw [beq_eq_false_iff_ne]; exact hE
          go_enter Try.func7, Try.ntmps7
          go_wp2_with (fail)
          refine (Long_c _ _ _ _).mono ?_
          rintro e q1 ⟨rfl, rfl⟩
          rw [hd]
          go_wp2_with (at_builtin; refine wpList_append_eq rfl _ _ 22 rfl _ _ _ w1 rfl rfl E1.out ?_)
          refine (HA _ _ _ ro0 hs1 hc1).out.mono ?_
          rintro e w2 ⟨A1, c1, rfl, oa0, hb2⟩
          have hk2 := hb2
          have ro2 := ro0.later hb2
          clear ro0
          go_wp2_with (fail)
          refine (HR _ (hr1.later hk2) (hs1.later hk2) (hc1.later hk2)).out.mono ?_
          rintro e w3 ⟨A2, c2, rfl, ob0, hb3⟩
          have hk3 := bl_call hk2 hb3
          have ro3 := ro2.later hb3
          have oa3 := own_call oa0 hb3
          clear hk2 ro2 oa0
          have rb0 := (own_rd ob0).1
          clear ob0
          go_wp2_with (fail)
          refine ((HV _ (hr1.later hk3) (hs1.later hk3)).out).mono ?_
          rintro e w4 ⟨rfl, hb4⟩
          have hk4 := bl_call hk3 hb4
          have ro4 := ro3.later hb4
          have rb4 := rb0.later hb4
          have oa4 := own_call oa3 hb4
          clear hk3 ro3 rb0 oa3
          go_wp2_with (fail)
          refine ((HV2 _ (hr1.later hk4) (hs1.later hk4)).out).mono ?_
          rintro e w5 ⟨rfl, hb5⟩
          have hk5 := bl_call hk4 hb5
          have ro5 := ro4.later hb5
          have rb5 := rb4.later hb5
          have oa5 := own_call oa4 hb5
          clear hk4 ro4 rb4 oa4
          go_wp2_with (fail)
          refine (same_c _ _ _ _ _ _ (by have := HSL.out; omega) (own_rd oa5).1 rb5).mono ?_
          rintro e w6 ⟨rfl, hb6⟩
          have hk6 := bl_call hk5 hb6
          have ro6 := ro5.later hb6
          have rb6 := rb5.later hb6
          have oa6 := own_call oa5 hb6
          clear hk5 ro5 rb5 oa5
          clear rb6
          go_wp2_with (fail)
          refine ((HT _ (hr1.later hk6)).out).mono ?_
          rintro e w7 ⟨rfl, hb7⟩
          have hk7 := bl_call hk6 hb7
          have ro7 := ro6.later hb7
          have oa7 := own_call oa6 hb7
          clear hk6 ro6 oa6
          have hn8 := bl_alloc (Below.refl w7.heap.size w7) (.cells #[.int .i64 t.1, .int .i64 t.2] 30)
          have y8 : Bx (w7.alloc (.cells #[.int .i64 t.1, .int .i64 t.2] 30)) w7.heap.size 30 #[.int .i64 t.1, .int .i64 t.2] := Bx.new w7 _ _
          have hk8 := bl_call hk7 hn8
          have ro8 := ro7.later hn8
          have oa8 := own_call oa7 hn8
          clear hk7 ro7 oa7
          clear hn8
          obtain ⟨ft0, ft1, _, _⟩ := y8.two
          go_wp2_with (fail)
          refine ((HT2 _ _ _ (own_rd oa8).1).out).mono ?_
          rintro e w9 ⟨rfl, hb9⟩
          have hk9 := bl_call hk8 hb9
          have xt9 := y8.call hb9
          have ro9 := ro8.later hb9
          have oa9 := own_call oa8 hb9
          clear ft0 ft1 hk8 y8 ro8 oa8
          obtain ⟨ft0, ft1, _, _⟩ := xt9.two
          have hn10 := bl_alloc (Below.refl w9.heap.size w9) (.cells #[.int .i64 ts.1, .int .i64 ts.2] 30)
          have y10 : Bx (w9.alloc (.cells #[.int .i64 ts.1, .int .i64 ts.2] 30)) w9.heap.size 30 #[.int .i64 ts.1, .int .i64 ts.2] := Bx.new w9 _ _
          have hk10 := bl_call hk9 hn10
          have xt10 := xt9.call hn10
          have ro10 := ro9.later hn10
          have oa10 := own_call oa9 hn10
          clear ft0 ft1 hk9 xt9 ro9 oa9
          clear hn10
          obtain ⟨ft0, ft1, _, _⟩ := xt10.two
          obtain ⟨fs0, fs1, _, _⟩ := y10.two
          go_wp2_with (fail)
          clear ft0 ft1 fs0 fs1
          have hoa := own_base oa10 (Nat.le_refl _)
          go_loopg [18] S.length (fun gk iv wr => ∃ j : Nat, Hid (j + gk = S.length) ∧ iv = .int .i64 (j : Int) ∧ wr.ownsRow w1.heap.size 50 3 (.slice A1 S.length c1) S.length (cellsI (mapK negI S j)) ∧ Below w1.heap.size w1 wr)
          case atStart => exact ⟨0, by simp [Hid], rfl, by rw [mapK_zero]; exact hoa, by first | exact hk10 | exact bl_call (Below.refl _ _) hk10⟩
          case round =>
            obtain ⟨j, HJ, rfl, hown, hb⟩ := hrel
            rcases gk with _ | gi
            · obtain rfl : j = S.length := HJ.out
              go_wp2_with (fail)
              refine (same_c _ _ _ _ _ _ (by omega) (hro.out.later hb) (hr1.later hb)).mono ?_
              rintro e w91 ⟨rfl, hb91⟩
              have hk91 := bl_call hb hb91
              clear hb
              go_wp2_with (fail)
              refine (known_c _).mono ?_
              rintro e w92 ⟨rfl, hb92⟩
              have hk92 := bl_call hk91 hb92
              clear hk91
              go_wp2_with (fail)
              go_ret
              exact ⟨rfl, bl_call hkw hk92⟩
            · have hjl : j < S.length := by have := HJ.out; omega
              have hjl' : (j : Int) < (S.length : Int) := by omega
              have hSl := HSL.out
              obtain ⟨g, rfl, hbg, hgl, q1, q2, hput⟩ := own_putU hown (mapK_len _ _ _) hjl
              have hput2 := hput (-1)
              rw [mapK_get hjl] at hput2
              have hS2 : (mapK negI S j).set j ⟨-1, (S.getD j it0).n, (S.getD j it0).d⟩ = mapK negI S (j + 1) := mapK_set (f := negI) hjl
              rw [hS2] at hput2
              have HP := Lib.hid hput2
              have hbs := Lib.hid (hb.setCell (p := ⟨g, j * 3, none⟩) hbg (.int .i64 (-1)))
              clear hput hput2 hS2 hown
              go_wp2_with (fail)
              go_roundg gi
              case rel => exact ⟨j + 1, by have := HJ.out; show _ = _; omega, by go_num, HP.out, hbs.out⟩
              case measure => omega
end Go.Proofs.Ytgbjglkiaoplmaa
