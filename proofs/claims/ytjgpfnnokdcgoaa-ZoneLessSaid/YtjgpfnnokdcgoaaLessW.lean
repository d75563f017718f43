/- The walk of the law on a trap without a link. -/
import Derived.Test.YtjgpfnnokdcgoaaKnownZ
import Derived.Test.YtjgpfnnokdcgoaaLessL
import Derived.Test.YtjgpfnnokdcgoaaMovesW
namespace Go.Proofs.Ytjgpfnnokdcgoaa
open Go.RowKit Go.Maps

set_option maxRecDepth 100000 in
set_option maxHeartbeats 8000000 in
theorem zoneLess_walk (Z : Int) (A : Option Addr) (l : List (Int × Int)) (c : Nat) (B : Option Addr) (p : List Int) (d : Nat) (k : Int) (w : World) (_hcap : l.length ≤ c) (hr : Rd w A (cellsP l)) (hs : Rd w B (ints p)) (_hk : (Lit.int .i64 k).wf = true) :
    Calls Try.prog 14 #[trapV Z A l.length c, .slice B p.length d, .int .i64 k] w fun e w' => e = .returned (.bool true) ∧ Below w.heap.size w w' := by
  have HL := fun w => Lib.hid (long_c Z A l.length c w)
  have HM := fun w => Lib.hid (many_c B p.length d w)
  have HK := fun w => Lib.hid (known_c w)
  have x0 := Bx.new w 24 #[.int .i64 Z, .slice A l.length c]
  have hb0 := bl_alloc (Below.refl w.heap.size w) (.cells #[.int .i64 Z, .slice A l.length c] 24)
  generalize hw0 : w.alloc (.cells #[.int .i64 Z, .slice A l.length c] 24) = w0 at *
  obtain ⟨c0, c1, _⟩ := x0.two
  by_cases hlong : 60 < l.length
  · rw [decide_eq_true hlong] at HL
    go_enter Try.func14, Try.ntmps14
    go_wp2_with (fail)
    refine (HL _).out.mono ?_
    rintro e w1 ⟨rfl, hb1⟩
    go_wp2_with (fail)
    refine (HK _).out.mono ?_
    rintro e w2 ⟨rfl, hb2⟩
    go_wp2_with (fail)
    go_ret
    exact ⟨rfl, bl_call hb0 (bl_call hb1 hb2)⟩
  · rw [decide_eq_false hlong] at HL
    by_cases hmany : 40 < p.length
    · rw [decide_eq_true hmany] at HM
      go_enter Try.func14, Try.ntmps14
      go_wp2_with (fail)
      refine (HL _).out.mono ?_
      rintro e w1 ⟨rfl, hb1⟩
      go_wp2_with (fail)
      refine (HM _).out.mono ?_
      rintro e w2 ⟨rfl, rfl⟩
      go_wp2_with (fail)
      refine (HK _).out.mono ?_
      rintro e w2 ⟨rfl, hb2⟩
      go_wp2_with (fail)
      go_ret
      exact ⟨rfl, bl_call hb0 (bl_call hb1 hb2)⟩
    · rw [decide_eq_false hmany] at HM
      have hlen : l.length ≤ 1000 := by omega
      have hlen' : p.length ≤ 1000 := by omega
      have hml := with_len Z l k
      have H1 := fun w1 hr1 => Lib.hid (copy_c Z A l c w1 hlen hr1)
      have H2 := fun A2 c2 w1 h1 h2 hr1 => Lib.hid (Without_c Z A2 l c2 k w1 hlen h1 h2 hr1)
      have H3 := fun w1 hr1 => Lib.hid (rWithout_c Z A l c k w1 hlen hr1)
      have H4 := fun X Y c2 d2 w1 hr1 hs1 => Lib.hid (sameT_c (withZ Z l k) (withZ Z l k) X Y (withG Z l k) (withG Z l k) c2 d2 w1 (by omega) hr1 hs1)
      have H5 := fun w1 hr1 hs1 => Lib.hid (Reach_c Z A B l p c d w1 hlen hlen' hr1 hs1)
      have H6 := fun X c2 w1 hr1 hs1 => Lib.hid (Reach_c (withZ Z l k) X B (withG Z l k) p c2 d w1 (by omega) hlen' hr1 hs1)
      have H7 := fun X c2 w1 hr1 hs1 => Lib.hid (sameT_c Z Z X A l l c2 c w1 (by omega) hr1 hs1)
      have HLF := fun hw hp => @less_facts Z l k p hw hp
      unfold OutT at H2 H3
      simp only [true_and, decide_true] at H4 H7
      clear hlong hmany
      generalize withE Z l k = E at *
      generalize withZ Z l k = Y at *
      generalize withG Z l k = m at *
      generalize placeE Z l p = PE at *
      generalize reachG Z l p = RR at *
      have hml2 : m.length ≤ 1000 := by omega
      clear hml
      go_enter Try.func14, Try.ntmps14
      go_wp2_with (fail)
      refine (HL _).out.mono ?_
      rintro e w1 ⟨rfl, hb1⟩
      go_wp2_with (fail)
      refine (HM _).out.mono ?_
      rintro e w2 ⟨rfl, rfl⟩
      have y1 := x0.call hb1
      have hb01 := bl_call hb0 hb1
      clear c0 c1
      obtain ⟨c0, c1, _⟩ := y1.two
      go_wp2_with (fail)
      refine (H1 _ (hr.later hb01)).out.mono ?_
      rintro e w2 ⟨A2, c2, rfl, ho2, hb2⟩
      have hcap2 := own_capZ ho2
      have hcm2 := own_capM ho2
      have hr2 := (own_rd ho2).1
      have y2 := (y1.call hb2).alloc (.cells #[.int .i64 Z, .slice A2 l.length c2] 24)
      have u2 := Bx.new w2 24 #[.int .i64 Z, .slice A2 l.length c2]
      have hb02 := bl_alloc (bl_call hb01 hb2) (.cells #[.int .i64 Z, .slice A2 l.length c2] 24)
      have hr2' := hr2.later (bl_alloc (Below.refl w2.heap.size w2) (.cells #[.int .i64 Z, .slice A2 l.length c2] 24))
      clear c0 c1 ho2 hr2 H1
      obtain ⟨c0, c1, _⟩ := y2.two
      obtain ⟨d0, d1, _⟩ := u2.two
      go_wp2_with (fail)
      generalize hw2' : w2.alloc (.cells #[.int .i64 Z, .slice A2 l.length c2] 24) = v2 at *
      refine (H2 _ _ _ hcap2 hcm2 hr2').out.mono ?_
      rintro e w3 ⟨A3, c3, rfl, ho3, hb3⟩
      have hr3 := (own_rd ho3).1
      have hA3 := hr3.blk
      have q3 := Bx.new w3 24 #[.int .i64 Y, .slice A3 m.length c3]
      have hbv3 := bl_alloc hb3 (.cells #[.int .i64 Y, .slice A3 m.length c3] 24)
      have hal3 := bl_alloc (Below.refl w3.heap.size w3) (.cells #[.int .i64 Y, .slice A3 m.length c3] 24)
      have ho3' := own_call ho3 hal3
      have hr3' := hr3.later hal3
      have y3 := y2.call hbv3
      have hgt : w3.heap.size < (w3.alloc (.cells #[.int .i64 Y, .slice A3 m.length c3] 24)).heap.size := q3.lt
      clear c0 c1 d0 d1 hr3 ho3 hal3 H2
      obtain ⟨c0, c1, _⟩ := y3.two
      go_wp2_with (fail)
      generalize hw3' : w3.alloc (.cells #[.int .i64 Y, .slice A3 m.length c3] 24) = v3 at *
      refine (H3 _ (hr.later (bl_call hb02 hbv3))).out.mono ?_
      rintro e w4 ⟨A4, c4, rfl, ho4, hb4⟩
      have hr4 := (own_rd ho4).1
      have q4 := (q3.call hb4).alloc (.cells #[.int .i64 Y, .slice A4 m.length c4] 24)
      have z4 := Bx.new w4 24 #[.int .i64 Y, .slice A4 m.length c4]
      have hb4' := bl_alloc hb4 (.cells #[.int .i64 Y, .slice A4 m.length c4] 24)
      have hr4' := hr4.later (bl_alloc (Below.refl w4.heap.size w4) (.cells #[.int .i64 Y, .slice A4 m.length c4] 24))
      clear c0 c1 hr4 ho4 H3
      obtain ⟨c0, c1, _⟩ := q4.two
      obtain ⟨d0, d1, _⟩ := z4.two
      go_wp2_with (fail)
      generalize hw4' : w4.alloc (.cells #[.int .i64 Y, .slice A4 m.length c4] 24) = v4 at *
      refine (H4 _ _ _ _ _ (hr3'.later hb4') hr4').out.mono ?_
      rintro e w5 ⟨rfl, hb5⟩
      have hbv5 := bl_call hb4' hb5
      have y5 := y3.call hbv5
      clear c0 c1 d0 d1 H4
      obtain ⟨c0, c1, _⟩ := y5.two
      go_wp2_with (fail)
      refine (H5 _ (hr.later (bl_call (bl_call hb02 hbv3) hbv5)) (hs.later (bl_call (bl_call hb02 hbv3) hbv5))).out.mono ?_
      rintro e w6 ⟨rfl, hb6⟩
      have hbv6 := bl_call hbv5 hb6
      have q6 := q3.call hbv6
      have ho6 := own_call ho3' hbv6
      have hbS := bl_call hbv3 hbv6
      have hs6 := hs.later (bl_call hb02 hbS)
      have hr6 := hr3'.later hbv6
      clear c0 c1 H5
      obtain ⟨c0, c1, _⟩ := q6.two
      rcases (by omega : ¬ E = 0 ∨ (E = 0 ∧ ¬ PE = 0) ∨ (E = 0 ∧ PE = 0)) with he | ⟨rfl, hp⟩ | ⟨rfl, rfl⟩
      · clear HLF H6
        go_wp2_with (fail)
        clear c0 c1
        go_loopg [16] m.length (fun gk iv wr => ∃ (j : Nat) (M : List (Int × Int)), Hid (j + gk = m.length) ∧ iv = .int .i64 (j : Int) ∧ Hid (M.length = m.length) ∧ wr.ownsRow v2.heap.size 69 2 (.slice A3 m.length c3) m.length (cellsP M) ∧ Bx wr w3.heap.size 24 #[.int .i64 Y, .slice A3 m.length c3] ∧ Below v2.heap.size v2 wr)
        case atStart => exact ⟨0, m, by simp [Hid], rfl, by simp [Hid], ho6, q6, hbS⟩
        case round =>
          obtain ⟨j, M, HJ, rfl, HML, ho, q, hb⟩ := hrel
          obtain ⟨c0, c1, _⟩ := q.two
          rcases gk with _ | gi
          · obtain rfl : j = m.length := HJ.out
            obtain ⟨d0, d1, _⟩ := (u2.call hb).two
            obtain ⟨e0, e1, _⟩ := (y2.call hb).two
            go_wp2_with (fail)
            refine (H7 _ _ _ (hr2'.later hb) (hr.later (bl_call hb02 hb))).out.mono ?_
            rintro e w8 ⟨rfl, hb8⟩
            go_wp2_with (fail)
            refine (HK _).out.mono ?_
            rintro e w9 ⟨rfl, hb9⟩
            go_wp2_with (fail)
            go_ret
            exact ⟨rfl, bl_call hb02 (bl_call hb (bl_call hb8 hb9))⟩
          · have hjm : j < m.length := by have h := HJ.out; omega
            have hjm' : (j : Int) < (m.length : Int) := by omega
            obtain ⟨g, rfl, hgb, hgl, n0, f0, ho'⟩ := own_putL ho HML.out hjm (-1)
            have hg3 : g < w3.heap.size := hA3 _ rfl (by intro h; have := congrArg List.length h; simp at this; omega)
            have hrel2 := Lib.hid (And.intro ho' (And.intro (q.far (g' := g) (i := j * 2) (by omega) (.int .i64 (-1))) (hb.setCell (p := ⟨g, j * 2, none⟩) hgb (.int .i64 (-1)))))
            have HML2 : Hid ((M.set j (-1, (M.getD j (0, 0)).2)).length = m.length) := by show _ = _; rw [List.length_set]; exact HML.out
            clear ho' ho
            go_wp2_with (fail)
            go_roundg gi
            case rel => exact ⟨j + 1, _, by have h := HJ.out; show _ = _; omega, by go_num, HML2, hrel2.out.1, hrel2.out.2.1, hrel2.out.2.2⟩
            case measure => omega
      · clear HLF H6
        go_wp2_with (fail)
        clear c0 c1
        go_loopg [16] m.length (fun gk iv wr => ∃ (j : Nat) (M : List (Int × Int)), Hid (j + gk = m.length) ∧ iv = .int .i64 (j : Int) ∧ Hid (M.length = m.length) ∧ wr.ownsRow v2.heap.size 69 2 (.slice A3 m.length c3) m.length (cellsP M) ∧ Bx wr w3.heap.size 24 #[.int .i64 Y, .slice A3 m.length c3] ∧ Below v2.heap.size v2 wr)
        case atStart => exact ⟨0, m, by simp [Hid], rfl, by simp [Hid], ho6, q6, hbS⟩
        case round =>
          obtain ⟨j, M, HJ, rfl, HML, ho, q, hb⟩ := hrel
          obtain ⟨c0, c1, _⟩ := q.two
          rcases gk with _ | gi
          · obtain rfl : j = m.length := HJ.out
            obtain ⟨d0, d1, _⟩ := (u2.call hb).two
            obtain ⟨e0, e1, _⟩ := (y2.call hb).two
            go_wp2_with (fail)
            refine (H7 _ _ _ (hr2'.later hb) (hr.later (bl_call hb02 hb))).out.mono ?_
            rintro e w8 ⟨rfl, hb8⟩
            go_wp2_with (fail)
            refine (HK _).out.mono ?_
            rintro e w9 ⟨rfl, hb9⟩
            go_wp2_with (fail)
            go_ret
            exact ⟨rfl, bl_call hb02 (bl_call hb (bl_call hb8 hb9))⟩
          · have hjm : j < m.length := by have h := HJ.out; omega
            have hjm' : (j : Int) < (m.length : Int) := by omega
            obtain ⟨g, rfl, hgb, hgl, n0, f0, ho'⟩ := own_putL ho HML.out hjm (-1)
            have hg3 : g < w3.heap.size := hA3 _ rfl (by intro h; have := congrArg List.length h; simp at this; omega)
            have hrel2 := Lib.hid (And.intro ho' (And.intro (q.far (g' := g) (i := j * 2) (by omega) (.int .i64 (-1))) (hb.setCell (p := ⟨g, j * 2, none⟩) hgb (.int .i64 (-1)))))
            have HML2 : Hid ((M.set j (-1, (M.getD j (0, 0)).2)).length = m.length) := by show _ = _; rw [List.length_set]; exact HML.out
            clear ho' ho
            go_wp2_with (fail)
            go_roundg gi
            case rel => exact ⟨j + 1, _, by have h := HJ.out; show _ = _; omega, by go_num, HML2, hrel2.out.1, hrel2.out.2.1, hrel2.out.2.2⟩
            case measure => omega
      · obtain ⟨rfl, g2, g3⟩ := HLF rfl rfl
        rw [g2] at H6
        generalize reachG Y m p = RM at *
        have g4 : ¬ RM > RR := by omega
        clear HLF g2 g3
        go_wp2_with (fail)
        refine (H6 _ _ _ hr6 hs6).out.mono ?_
        rintro e w7 ⟨rfl, hb7⟩
        have q7 := q6.call hb7
        have ho7 := own_call ho6 hb7
        have hbS7 := bl_call hbS hb7
        clear q6 ho6 hbS hs6 hr6 c0 c1 hbv6 hb6 H6
        have q6 := q7
        have ho6 := ho7
        have hbS := hbS7
        clear q7 ho7 hbS7
        obtain ⟨c0, c1, _⟩ := q6.two
        go_wp2_with (fail)
        clear c0 c1
        go_loopg [16] m.length (fun gk iv wr => ∃ (j : Nat) (M : List (Int × Int)), Hid (j + gk = m.length) ∧ iv = .int .i64 (j : Int) ∧ Hid (M.length = m.length) ∧ wr.ownsRow v2.heap.size 69 2 (.slice A3 m.length c3) m.length (cellsP M) ∧ Bx wr w3.heap.size 24 #[.int .i64 Y, .slice A3 m.length c3] ∧ Below v2.heap.size v2 wr)
        case atStart => exact ⟨0, m, by simp [Hid], rfl, by simp [Hid], ho6, q6, hbS⟩
        case round =>
          obtain ⟨j, M, HJ, rfl, HML, ho, q, hb⟩ := hrel
          obtain ⟨c0, c1, _⟩ := q.two
          rcases gk with _ | gi
          · obtain rfl : j = m.length := HJ.out
            obtain ⟨d0, d1, _⟩ := (u2.call hb).two
            obtain ⟨e0, e1, _⟩ := (y2.call hb).two
            go_wp2_with (fail)
            refine (H7 _ _ _ (hr2'.later hb) (hr.later (bl_call hb02 hb))).out.mono ?_
            rintro e w8 ⟨rfl, hb8⟩
            go_wp2_with (fail)
            refine (HK _).out.mono ?_
            rintro e w9 ⟨rfl, hb9⟩
            go_wp2_with (fail)
            go_ret
            exact ⟨rfl, bl_call hb02 (bl_call hb (bl_call hb8 hb9))⟩
          · have hjm : j < m.length := by have h := HJ.out; omega
            have hjm' : (j : Int) < (m.length : Int) := by omega
            obtain ⟨g, rfl, hgb, hgl, n0, f0, ho'⟩ := own_putL ho HML.out hjm (-1)
            have hg3 : g < w3.heap.size := hA3 _ rfl (by intro h; have := congrArg List.length h; simp at this; omega)
            have hrel2 := Lib.hid (And.intro ho' (And.intro (q.far (g' := g) (i := j * 2) (by omega) (.int .i64 (-1))) (hb.setCell (p := ⟨g, j * 2, none⟩) hgb (.int .i64 (-1)))))
            have HML2 : Hid ((M.set j (-1, (M.getD j (0, 0)).2)).length = m.length) := by show _ = _; rw [List.length_set]; exact HML.out
            clear ho' ho
            go_wp2_with (fail)
            go_roundg gi
            case rel => exact ⟨j + 1, _, by have h := HJ.out; show _ = _; omega, by go_num, HML2, hrel2.out.1, hrel2.out.2.1, hrel2.out.2.2⟩
            case measure => omega
end Go.Proofs.Ytjgpfnnokdcgoaa
