/- The walk of the statement on the sum of two pulses. -/
import Derived.Test.YtaaggekifibocaaAdd
import Derived.Test.YtaaggekifibocaaKnown
import Derived.Test.YtaaggekifibocaaCmp
namespace Go.Proofs.Ytaaggekifibocaa
open Go.RowKit

theorem adM_comm (p q : List Int) : adM q p = adM p q := by
  unfold adM
  rw [List.zipWith_comm]
  congr 1
  funext x y
  rw [Int.add_comm]
theorem bothE_comm {p q : List Int} (h : bothE p q = 0) : bothE q p = 0 := by
  obtain ⟨h1, h2⟩ := bothE_zero h
  rw [bothE, if_pos h2]; exact h1
theorem ad_at {p q : List Int} (h : adE p q = 0) : bothE p q = 0 ∧ p.length = q.length ∧ forces (adM p q) = true := by
  unfold adE at h
  by_cases hb : bothE p q = 0
  · rw [if_pos hb] at h
    by_cases hl : p.length = q.length
    · rw [if_pos hl] at h
      by_cases hf : forces (adM p q) = true
      · exact ⟨hb, hl, hf⟩
      · rw [if_neg hf] at h; cases h
    · rw [if_neg hl] at h; cases h
  · rw [if_neg hb] at h; exact absurd h hb
theorem ad_swap {p q : List Int} (h : adE p q = 0) : adE q p = 0 ∧ adL q p = adL p q := by
  obtain ⟨hb, hl, hf⟩ := ad_at h
  have h1 := ad_ok hb hl hf
  have h2 := ad_ok (bothE_comm hb) hl.symm (by rw [adM_comm]; exact hf)
  exact ⟨h2.1, by rw [h1.2, h2.2, adM_comm]⟩
theorem adL_len (p q : List Int) : (adL p q).length ≤ p.length := by
  unfold adL
  by_cases h : adE p q = 0
  · rw [if_pos h]; simp [adM]; omega
  · rw [if_neg h]; exact Nat.zero_le _
theorem x_add {p q r : List Int} (m : Int) (h : ∀ k, r.getD k 0 = p.getD k 0 + q.getD k 0) : ∀ k, xZ m r k = plusZ (xZ m p k) (xZ m q k)
  | 0 => by simp [xZ, plusZ]
  | k + 1 => by
    rw [xZ, x_add m h k, xZ, xZ]
    simp only [sZ, timesZ, plusZ, h, Int.add_mul]
    apply Prod.ext <;> (simp only []; omega)
theorem add_facts {p q : List Int} (m : Int) (h : adE p q = 0) : inE q m = inE p m ∧ inE (adL p q) m = inE p m ∧ (inE p m = 0 → endG (adL p q) m = plusW (endG p m) (endG q m)) := by
  obtain ⟨hb, hl, hf⟩ := ad_at h
  have hL := (ad_ok hb hl hf).2
  obtain ⟨hp, hq⟩ := bothE_zero hb
  have hlen := validE_len hp
  have hM : validE (adM p q) = 0 := by rw [validE, if_pos (by rw [adM_len hl]; exact hlen), if_pos hf]
  rw [hL]
  have e1 : inE q m = inE p m := by rw [inE, inE, if_pos hp, if_pos hq]
  have e2 : inE (adM p q) m = inE p m := by rw [inE, inE, if_pos hp, if_pos hM]
  refine ⟨e1, e2, fun hi => ?_⟩
  have ok := ok_of hi
  have okq := ok_of (e1.trans hi)
  have hg : ∀ k, (adM p q).getD k 0 = p.getD k 0 + q.getD k 0 := fun k => by
    have a1 := ok.force k
    have a2 := okq.force k
    rw [adM_get hl, w_small (by omega) (by omega)]
  rw [endG, endG, endG, if_pos hi, if_pos (e1.trans hi), if_pos (e2.trans hi)]
  rw [lastP_path, lastP_path, lastP_path, ptAt_z, ptAt_z, ptAt_z, adM_len hl, ← hl]
  show W2 (xZ m (adM p q) p.length) = plusW (W2 (xZ m p p.length)) (W2 (xZ m q p.length))
  rw [plus_w, x_add m hg]

set_option maxRecDepth 100000 in
set_option maxHeartbeats 800000 in
theorem pulseAdds_walk (A : Option Addr) (p : List Int) (cap : Nat) (B : Option Addr) (q : List Int) (cap' : Nat) (m : Int) (w : World) (hr : Rd w A (ints p)) (hs : Rd w B (ints q)) (_hm : (Lit.int .i64 m).wf = true) :
    Calls Try.prog 11 #[.slice A p.length cap, .slice B q.length cap', .int .i64 m] w fun e w' => e = .returned (.bool true) ∧ Below w.heap.size w w' := by
  by_cases h1 : 100 < p.length
  · have h1' : decide (100 < p.length) = true := by simpa using h1
    go_enter Try.func11, Try.ntmps11
    go_wp2_with (first | (go_at_call 17; refine (long_c _ _ _ _).mono ?_; rintro e w' ⟨rfl, rfl⟩) | (go_at_call 18; refine (known_c _).mono ?_; rintro e w' ⟨rfl, hb1⟩))
    go_ret
    exact ⟨rfl, hb1⟩
  · have h1' : decide (100 < p.length) = false := by simpa using h1
    by_cases h2 : 100 < q.length
    · have h2' : decide (100 < q.length) = true := by simpa using h2
      go_enter Try.func11, Try.ntmps11
      go_wp2_with (first | (go_at_call 17; refine (long_c _ _ _ _).mono ?_; rintro e w' ⟨rfl, rfl⟩) | (go_at_call 18; refine (known_c _).mono ?_; rintro e w' ⟨rfl, hb1⟩))
      go_ret
      exact ⟨rfl, hb1⟩
    · have h2' : decide (100 < q.length) = false := by simpa using h2
      have HL := adL_len p q
      have HF := Lib.hid (@add_facts p q m)
      have HS := Lib.hid (@ad_swap p q)
      have HA := Lib.hid (add_c A B p q cap cap' w hr hs)
      have HB := fun w1 (hb : Below w.heap.size w w1) => Lib.hid (radd_c A B p q cap cap' w1 (hr.later hb) (hs.later hb))
      have HC := fun w1 (hb : Below w.heap.size w w1) => Lib.hid (add_c B A q p cap' cap w1 (hs.later hb) (hr.later hb))
      unfold AdOut at HA HB HC
      have HX := fun w1 (hb : Below w.heap.size w w1) => Lib.hid (end_c A p cap m w1 (by omega) (hr.later hb))
      have HY := fun w1 (hb : Below w.heap.size w w1) => Lib.hid (end_c B q cap' m w1 (by omega) (hs.later hb))
      generalize adL p q = L at HL HF HA HB HS
      generalize adE p q = E at HF HA HB HS
      generalize adL q p = L' at HS HC
      generalize adE q p = E' at HS HC
      generalize inE p m = I at HF HX
      generalize inE q m = J at HF HY
      generalize endG p m = ep at HF HX
      generalize endG q m = eq at HF HY
      go_enter Try.func11, Try.ntmps11
      go_wp2_with (go_at_call 17; refine (long_c _ _ _ _).mono ?_; rintro e w' ⟨rfl, rfl⟩)
      refine HA.out.mono ?_
      rintro e w1 ⟨A1, c1, rfl, hr1, hb1⟩
      go_wp2_with (fail)
      refine (HB w1 hb1).out.mono ?_
      rintro e w2 ⟨A2, c2, rfl, hr2, hb2⟩
      have hw2 := bl_call hb1 hb2
      replace hr1 := hr1.later hb2
      clear HA HB
      go_wp2_with (fail)
      refine (sameInts_c A1 A2 L L c1 c2 w2 (by omega) hr1 hr2).mono ?_
      rintro e w3 ⟨rfl, hb3⟩
      have hw3 := bl_call hw2 hb3
      replace hr1 := hr1.later hb3
      clear hr2
      rw [decide_eq_true rfl]
      by_cases hE : (E != 0) = true
      · go_wp2_with (fail)
        refine (known_c _).mono ?_
        rintro e w7 ⟨rfl, hb7⟩
        go_wp2_with (fail)
        go_ret
        exact ⟨rfl, bl_call hw3 hb7⟩
      · have hE' : (E != 0) = false := by simpa using hE
        have hE0 : E = 0 := by simpa using hE'
        obtain ⟨rfl, rfl⟩ := HS.out hE0
        obtain ⟨rfl, hJ, hP⟩ := HF.out hE0
        have HZ := fun w1 (hr : Rd w1 A1 (ints L')) => Lib.hid (end_c A1 L' c1 m w1 (by omega) hr)
        rw [hJ] at HZ
        clear hE HF HS
        go_wp2_with (fail)
        refine (HC w3 hw3).out.mono ?_
        rintro e w4 ⟨A3, c3, rfl, hr3, hb4⟩
        have hw4 := bl_call hw3 hb4
        replace hr1 := hr1.later hb4
        clear HC
        go_wp2_with (fail)
        refine (HX w4 hw4).out.mono ?_
        rintro e w5 ⟨u, v, rfl, huv, hb5⟩
        have x5 := Bx.new w5 30 #[.int .i64 u, .int .i64 v]
        have ha5 := bl_alloc hb5 (.cells #[.int .i64 u, .int .i64 v] 30)
        have hw5 := bl_call hw4 ha5
        replace hr1 := hr1.later ha5
        replace hr3 := hr3.later ha5
        clear HX
        go_wp2_with (fail)
        refine (HY _ hw5).out.mono ?_
        rintro e w6 ⟨u2, v2, rfl, huv2, hb6⟩
        have ha6 := bl_alloc hb6 (.cells #[.int .i64 u2, .int .i64 v2] 30)
        have x6 := Bx.new w6 30 #[.int .i64 u2, .int .i64 v2]
        replace x5 := x5.call ha6
        have hw6 := bl_call hw5 ha6
        replace hr1 := hr1.later ha6
        replace hr3 := hr3.later ha6
        clear HY
        go_wp2_with (fail)
        refine (HZ _ hr1).out.mono ?_
        rintro e w7 ⟨u3, v3, rfl, huv3, hb7⟩
        have ha7 := bl_alloc hb7 (.cells #[.int .i64 u3, .int .i64 v3] 30)
        have x7 := Bx.new w7 30 #[.int .i64 u3, .int .i64 v3]
        replace x5 := x5.call ha7
        replace x6 := x6.call ha7
        have hw7 := bl_call hw6 ha7
        replace hr1 := hr1.later ha7
        replace hr3 := hr3.later ha7
        clear HZ
        rw [← huv, ← huv2, ← huv3] at hP
        clear huv huv2 huv3
        go_wp2_with (fail)
        refine (sameInts_c A1 A3 L' L' c1 c3 _ (by omega) hr1 hr3).mono ?_
        rintro e w8 ⟨rfl, hb8⟩
        rw [decide_eq_true rfl]
        have hw8 := bl_call hw7 hb8
        obtain ⟨i1, i2, i3, i4⟩ := (x5.call hb8).two
        obtain ⟨j1, j2, j3, j4⟩ := (x6.call hb8).two
        obtain ⟨k1, k2, k3, k4⟩ := (x7.call hb8).two
        have l5 := (x5.call hb8).lt
        have l6 := (x6.call hb8).lt
        have l7 := (x7.call hb8).lt
        clear x5 x6 x7 ha5 ha6 ha7 hr1 hr3
        generalize w5.heap.size = g5 at *
        generalize w6.heap.size = g6 at *
        generalize w7.heap.size = g7 at *
        by_cases hI : (J != 0) = true
        · go_wp2_with (fail)
          refine (known_c _).mono ?_
          rintro e w9 ⟨rfl, hb9⟩
          go_wp2_with (fail)
          go_ret
          exact ⟨rfl, bl_call hw8 hb9⟩
        · have hI' : (J != 0) = false := by simpa using hI
          have hI0 : J = 0 := by simpa using hI'
          have hP' := hP hI0
          simp only [plusW, Prod.mk.injEq] at hP'
          obtain ⟨rfl, rfl⟩ := hP'
          clear hI hP
          go_wp2_with (fail)
          refine (known_c _).mono ?_
          rintro e w9 ⟨rfl, hb9⟩
          go_wp2_with (fail)
          go_ret
          exact ⟨rfl, bl_call hw8 hb9⟩
end Go.Proofs.Ytaaggekifibocaa
