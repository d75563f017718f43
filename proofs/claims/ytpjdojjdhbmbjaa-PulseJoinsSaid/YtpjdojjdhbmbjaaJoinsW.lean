/- The walk of the statement on one pulse behind another one. -/
import Derived.Test.YtpjdojjdhbmbjaaJoinF
import Derived.Test.YtpjdojjdhbmbjaaKnown
import Derived.Test.YtpjdojjdhbmbjaaCmp
namespace Go.Proofs.Ytpjdojjdhbmbjaa
open Go.RowKit

set_option maxRecDepth 100000 in
set_option maxHeartbeats 1000000 in
theorem pulseJoins_walk (A : Option Addr) (p : List Int) (cap : Nat) (B : Option Addr) (q : List Int) (cap' : Nat) (m : Int) (w : World) (hr : Rd w A (ints p)) (hs : Rd w B (ints q)) (_hm : (Lit.int .i64 m).wf = true) :
    Calls Try.prog 10 #[.slice A p.length cap, .slice B q.length cap', .int .i64 m] w fun e w' => e = .returned (.bool true) ∧ Below w.heap.size w w' := by
  by_cases h1 : 100 < p.length
  · have h1' : decide (100 < p.length) = true := by simpa using h1
    go_enter Try.func10, Try.ntmps10
    go_wp2_with (first | (go_at_call 17; refine (long_c _ _ _ _).mono ?_; rintro e w' ⟨rfl, rfl⟩) | (go_at_call 18; refine (known_c _).mono ?_; rintro e w' ⟨rfl, hb1⟩))
    go_ret
    exact ⟨rfl, hb1⟩
  · have h1' : decide (100 < p.length) = false := by simpa using h1
    by_cases h2 : 100 < q.length
    · have h2' : decide (100 < q.length) = true := by simpa using h2
      go_enter Try.func10, Try.ntmps10
      go_wp2_with (first | (go_at_call 17; refine (long_c _ _ _ _).mono ?_; rintro e w' ⟨rfl, rfl⟩) | (go_at_call 18; refine (known_c _).mono ?_; rintro e w' ⟨rfl, hb1⟩))
      go_ret
      exact ⟨rfl, hb1⟩
    · have h2' : decide (100 < q.length) = false := by simpa using h2
      have HL := joL_len p q
      have HF := Lib.hid (@join_facts p q m)
      have HA := Lib.hid (join_c A B p q cap cap' w hr hs)
      have HB := fun w1 (hb : Below w.heap.size w w1) => Lib.hid (rjoin_c A B p q cap cap' w1 (hr.later hb) (hs.later hb))
      unfold TwoOut at HA HB
      have HX := fun w1 (hb : Below w.heap.size w w1) => Lib.hid (end_c A p cap m w1 (by omega) (hr.later hb))
      have HY := fun w1 (hb : Below w.heap.size w w1) => Lib.hid (end_c B q cap' m w1 (by omega) (hs.later hb))
      have HP := fun w1 (hb : Below w.heap.size w w1) => Lib.hid (area_c A p cap m w1 (by omega) (hr.later hb))
      have HQ := fun w1 (hb : Below w.heap.size w w1) => Lib.hid (area_c B q cap' m w1 (by omega) (hs.later hb))
      generalize joL p q = L at HL HF HA HB
      have HZ := fun A1 c1 w1 (h : Rd w1 A1 (ints L)) => Lib.hid (end_c A1 L c1 m w1 (by omega) h)
      have HO := fun A1 c1 w1 (h : Rd w1 A1 (ints L)) => Lib.hid (area_c A1 L c1 m w1 (by omega) h)
      generalize joE p q = E at HF HA HB
      generalize inE p m = I at HF HX HP
      generalize inE q m = J at HF HY HQ
      generalize inE L m = K at HF HZ HO
      generalize endG p m = ep at HF HX
      generalize endG q m = eq at HF HY
      generalize endG L m = el at HF HZ
      generalize areaG p m = ap at HF HP
      generalize areaG q m = aq at HF HQ
      generalize areaG L m = al at HF HO
      go_enter Try.func10, Try.ntmps10
      go_wp2_with (go_at_call 17; refine (long_c _ _ _ _).mono ?_; rintro e w' ⟨rfl, rfl⟩)
      refine HA.out.mono ?_
      rintro e w1 ⟨A1, c1, rfl, hr1, hb1⟩
      go_wp2_with (fail)
      refine (HB w1 hb1).out.mono ?_
      rintro e w2 ⟨A2, c2, rfl, hr2, hb2⟩
      have hw2 := bl_call hb1 hb2
      replace hr1 := hr1.later hb2
      clear HA HB
      go_wp2_with (fail)
      refine (sameInts_c A1 A2 L L c1 c2 w2 (by omega) hr1 hr2).mono ?_
      rintro e w3 ⟨rfl, hb3⟩
      have hw3 := bl_call hw2 hb3
      replace hr1 := hr1.later hb3
      clear hr2
      rw [decide_eq_true rfl]
      go_wp2_with (fail)
      refine (HX w3 hw3).out.mono ?_
      rintro e w5 ⟨u, v, rfl, huv, hb5⟩
      have x5 := Bx.new w5 30 #[.int .i64 u, .int .i64 v]
      have ha5 := bl_alloc hb5 (.cells #[.int .i64 u, .int .i64 v] 30)
      have hw5 := bl_call hw3 ha5
      replace hr1 := hr1.later ha5
      subst huv
      clear HX
      go_wp2_with (fail)
      refine (HY _ hw5).out.mono ?_
      rintro e w6 ⟨u2, v2, rfl, huv2, hb6⟩
      have ha6 := bl_alloc hb6 (.cells #[.int .i64 u2, .int .i64 v2] 30)
      have x6 := Bx.new w6 30 #[.int .i64 u2, .int .i64 v2]
      replace x5 := x5.call ha6
      have hw6 := bl_call hw5 ha6
      replace hr1 := hr1.later ha6
      subst huv2
      clear HY
      go_wp2_with (fail)
      refine (HZ A1 c1 _ hr1).out.mono ?_
      rintro e w7 ⟨u3, v3, rfl, huv3, hb7⟩
      have ha7 := bl_alloc hb7 (.cells #[.int .i64 u3, .int .i64 v3] 30)
      have x7 := Bx.new w7 30 #[.int .i64 u3, .int .i64 v3]
      replace x5 := x5.call ha7
      replace x6 := x6.call ha7
      have hw7 := bl_call hw6 ha7
      replace hr1 := hr1.later ha7
      subst huv3
      clear HZ ha5 ha6 ha7 hb5 hb6 hb7 hw6 hw5 hw3 hw2 hb3 hb2 hb1
      have hs5 := x5.lt
      have hs6 := x6.lt
      have hs7 := x7.lt
      generalize w5.heap.size = g5 at *
      generalize w6.heap.size = g6 at *
      by_cases hE : (E != 0) = true
      · go_wp2_with (fail)
        refine (known_c _).mono ?_
        rintro e w99 ⟨rfl, hb99⟩
        go_wp2_with (fail)
        go_ret
        exact ⟨rfl, bl_call hw7 hb99⟩
      · have hE' : (E != 0) = false := by simpa using hE
        have hE0 : E = 0 := by simpa using hE'
        obtain ⟨rfl, rfl, HP2⟩ := HF.out hE0
        subst hE0
        clear hE hE' HF
        by_cases hI : (K != 0) = true
        · go_wp2_with (fail)
          refine (known_c _).mono ?_
          rintro e w99 ⟨rfl, hb99⟩
          go_wp2_with (fail)
          go_ret
          exact ⟨rfl, bl_call hw7 hb99⟩
        · have hI' : (K != 0) = false := by simpa using hI
          have hI0 : K = 0 := by simpa using hI'
          obtain ⟨hend, harea⟩ := HP2 hI0
          subst hI0
          clear hI hI' HP2
          obtain ⟨j1, j2, j3, j4⟩ := x6.two
          have Hend := Lib.hid hend
          have Harea := Lib.hid harea
          clear hend harea
          go_wp2_with (fail)
          refine (turn_c _ _ _ _).mono ?_
          rintro e w9 ⟨ut, vt, rfl, hut, hb9⟩
          have hend := Hend.out
          rw [← hut] at hend
          simp only [plusW, Prod.mk.injEq] at hend
          obtain ⟨rfl, rfl⟩ := hend
          have ha9 := bl_alloc hb9 (.cells #[.int .i64 ut, .int .i64 vt] 30)
          have x9 := (Bx.new w9 30 #[.int .i64 ut, .int .i64 vt]).two
          clear hut Hend j1 j2 j3 j4
          obtain ⟨i1, i2, i3, i4⟩ := (x5.call ha9).two
          obtain ⟨j1, j2, j3, j4⟩ := (x6.call ha9).two
          obtain ⟨k1, k2, k3, k4⟩ := (x7.call ha9).two
          have hw9 := bl_call hw7 ha9
          replace hr1 := hr1.later ha9
          by_cases hu : u = 0 ∧ v = 0
          · obtain ⟨rfl, rfl⟩ := hu
            obtain rfl := Harea.out (.inl rfl)
            clear Harea
            go_wp2_with (fail)
            refine (HP _ hw9).out.mono ?_
            rintro e w11 ⟨rfl, hb11⟩
            have hw11 := bl_call hw9 hb11
            replace hr1 := hr1.later hb11
            go_wp2_with (fail)
            refine (HQ _ hw11).out.mono ?_
            rintro e w12 ⟨rfl, hb12⟩
            have hw12 := bl_call hw11 hb12
            replace hr1 := hr1.later hb12
            go_wp2_with (fail)
            refine (HO A1 c1 _ hr1).out.mono ?_
            rintro e w13 ⟨rfl, hb13⟩
            have hw13 := bl_call hw12 hb13
            go_wp2_with (fail)
            refine (known_c _).mono ?_
            rintro e w14 ⟨rfl, hb14⟩
            go_wp2_with (fail)
            go_ret
            exact ⟨rfl, bl_call hw13 hb14⟩
          · by_cases hu0 : u = 0
            · subst hu0
              have hv0 : (v == 0) = false := by simpa using fun h => hu ⟨rfl, h⟩
              clear hu
              by_cases hu2 : u2 = 0 ∧ v2 = 0
              · obtain ⟨rfl, rfl⟩ := hu2
                obtain rfl := Harea.out (.inr rfl)
                clear Harea
                go_wp2_with (fail)
                refine (HP _ hw9).out.mono ?_
                rintro e w11 ⟨rfl, hb11⟩
                have hw11 := bl_call hw9 hb11
                replace hr1 := hr1.later hb11
                go_wp2_with (fail)
                refine (HQ _ hw11).out.mono ?_
                rintro e w12 ⟨rfl, hb12⟩
                have hw12 := bl_call hw11 hb12
                replace hr1 := hr1.later hb12
                go_wp2_with (fail)
                refine (HO A1 c1 _ hr1).out.mono ?_
                rintro e w13 ⟨rfl, hb13⟩
                have hw13 := bl_call hw12 hb13
                go_wp2_with (fail)
                refine (known_c _).mono ?_
                rintro e w14 ⟨rfl, hb14⟩
                go_wp2_with (fail)
                go_ret
                exact ⟨rfl, bl_call hw13 hb14⟩
              · by_cases hu20 : u2 = 0
                · subst hu20
                  have hv20 : (v2 == 0) = false := by simpa using fun h => hu2 ⟨rfl, h⟩
                  clear hu2 Harea
                  go_wp2_with (fail)
                  refine (known_c _).mono ?_
                  rintro e w14 ⟨rfl, hb14⟩
                  go_wp2_with (fail)
                  go_ret
                  exact ⟨rfl, bl_call hw9 hb14⟩
                · have hu20' : (u2 == 0) = false := by simpa using hu20
                  clear hu2 hu20 Harea
                  go_wp2_with (fail)
                  refine (known_c _).mono ?_
                  rintro e w14 ⟨rfl, hb14⟩
                  go_wp2_with (fail)
                  go_ret
                  exact ⟨rfl, bl_call hw9 hb14⟩
            · have hu0' : (u == 0) = false := by simpa using hu0
              clear hu hu0
              by_cases hu2 : u2 = 0 ∧ v2 = 0
              · obtain ⟨rfl, rfl⟩ := hu2
                obtain rfl := Harea.out (.inr rfl)
                clear Harea
                go_wp2_with (fail)
                refine (HP _ hw9).out.mono ?_
                rintro e w11 ⟨rfl, hb11⟩
                have hw11 := bl_call hw9 hb11
                replace hr1 := hr1.later hb11
                go_wp2_with (fail)
                refine (HQ _ hw11).out.mono ?_
                rintro e w12 ⟨rfl, hb12⟩
                have hw12 := bl_call hw11 hb12
                replace hr1 := hr1.later hb12
                go_wp2_with (fail)
                refine (HO A1 c1 _ hr1).out.mono ?_
                rintro e w13 ⟨rfl, hb13⟩
                have hw13 := bl_call hw12 hb13
                go_wp2_with (fail)
                refine (known_c _).mono ?_
                rintro e w14 ⟨rfl, hb14⟩
                go_wp2_with (fail)
                go_ret
                exact ⟨rfl, bl_call hw13 hb14⟩
              · by_cases hu20 : u2 = 0
                · subst hu20
                  have hv20 : (v2 == 0) = false := by simpa using fun h => hu2 ⟨rfl, h⟩
                  clear hu2 Harea
                  go_wp2_with (fail)
                  refine (known_c _).mono ?_
                  rintro e w14 ⟨rfl, hb14⟩
                  go_wp2_with (fail)
                  go_ret
                  exact ⟨rfl, bl_call hw9 hb14⟩
                · have hu20' : (u2 == 0) = false := by simpa using hu20
                  clear hu2 hu20 Harea
                  go_wp2_with (fail)
                  refine (known_c _).mono ?_
                  rintro e w14 ⟨rfl, hb14⟩
                  go_wp2_with (fail)
                  go_ret
                  exact ⟨rfl, bl_call hw9 hb14⟩
end Go.Proofs.Ytpjdojjdhbmbjaa
