/- ClockOrders, walked. -/
import Derived.Test.YtiffgaelndajpaaKnownK
import Derived.Test.YtiffgaelndajpaaRurg
import Derived.Test.YtiffgaelndajpaaClkO
namespace Go.Proofs.Ytiffgaelndajpaa
open Go.RowKit

theorem ordQ_first {q : List Int} {n i : Nat} (h : i < q.length) : (ordQ q n).getD i 0 = q.getD i 0 := by
  rw [ordQ, List.getD_eq_getElem?_getD, List.getElem?_append_left h, ← List.getD_eq_getElem?_getD]
theorem ordQ_rest {q : List Int} {n k : Nat} (h : k < n) : (ordQ q n).getD (q.length + k) 0 = (k : Int) := by
  rw [ordQ, List.getD_eq_getElem?_getD, List.getElem?_append_right (by omega)]
  simp [h]
theorem ordTo_keep {q : List Int} {n : Nat} {L : List T3} {t i j : Nat} (h : ordTo q n L t i = (j : Int)) : ordTo q n L t (i + 1) = (j : Int) := by
  rw [ordTo, h, if_neg]
  simp only [Bool.and_eq_true, decide_eq_true_eq]; omega
theorem ordTo_skip {q : List Int} {n : Nat} {L : List T3} {t i : Nat} {x : Int} (hx : q.getD i 0 = x) (h : ordTo q n L t i = -1) (hn : ¬ (0 ≤ x ∧ x < (n : Int) ∧ availB L t x.toNat = true)) : ordTo q n L t (i + 1) = -1 := by
  rw [ordTo, h, hx, if_neg]
  simp only [Bool.and_eq_true, decide_eq_true_eq]
  exact fun y => hn ⟨y.2.1.1, y.2.1.2, y.2.2⟩
theorem ordTo_take {q : List Int} {n : Nat} {L : List T3} {t i k : Nat} (hx : q.getD i 0 = (k : Int)) (h : ordTo q n L t i = -1) (hk : k < n) (ha : availB L t k = true) : ordTo q n L t (i + 1) = (k : Int) := by
  rw [ordTo, h, hx, if_pos]
  simp only [Bool.and_eq_true, decide_eq_true_eq, Int.toNat_natCast]
  exact ⟨by omega, ⟨by omega, by omega⟩, ha⟩
theorem ordTo_range (q : List Int) (n : Nat) (L : List T3) (t i : Nat) : ordTo q n L t i = -1 ∨ ∃ k : Nat, ordTo q n L t i = (k : Int) ∧ k < n := by
  rcases ordTo_is q n L t i with ⟨h, _⟩ | ⟨k, h, hk, _⟩
  · exact .inl h
  · exact .inr ⟨k, h, hk⟩
theorem mostTo_range {pk : List T3 → Nat → Int} {l : List T3} (hp : Picks pk l) (hl : Ok l) : ∀ c, c ≤ 540 → -1000 ≤ (mostTo pk l c).1 ∧ (mostTo pk l c).1 ≤ 1000
  | 0, _ => by simp [mostTo]
  | c + 1, h => by
    have ih := mostTo_range hp hl c (by omega)
    rw [mostTo]
    split
    · rename_i hc
      have hk : pickG pk l c < (l.length : Int) := by
        rcases pick_is hp c with ⟨h1, _⟩ | ⟨k, h1, h2, _⟩ <;> omega
      have hj := hl.jobs.get (k := (pickG pk l c).toNat) (by omega)
      have h1 := hj.f0
      have h2 := hj.fb
      have h3 := hj.b1
      simp only []
      omega
    · exact ih
theorem mostTo_idle {pk : List T3 → Nat → Int} {l : List T3} {c : Nat} (h : pickG pk l c = -1) : mostTo pk l (c + 1) = mostTo pk l c := by
  rw [mostTo, h, if_neg]; omega
theorem mostTo_one {pk : List T3 → Nat → Int} {l : List T3} {c k : Nat} (h : pickG pk l c = (k : Int)) :
    (((leftG pk l (c + 1)).getD k t0).2.2 = 0 → ((mostTo pk l c).2 = false ∨ (mostTo pk l c).1 < (c : Int) + 1 - (l.getD k t0).2.1) → mostTo pk l (c + 1) = ((c : Int) + 1 - (l.getD k t0).2.1, true)) ∧
    (((leftG pk l (c + 1)).getD k t0).2.2 ≠ 0 → mostTo pk l (c + 1) = mostTo pk l c) ∧ ((mostTo pk l c).2 = true → ¬ (mostTo pk l c).1 < (c : Int) + 1 - (l.getD k t0).2.1 → mostTo pk l (c + 1) = mostTo pk l c) := by
  refine ⟨fun h1 h2 => ?_, fun h1 => ?_, fun h1 h2 => ?_⟩
  · rw [mostTo, h, Int.toNat_natCast]
    exact if_pos ⟨by omega, h1, h2⟩
  · rw [mostTo, h, Int.toNat_natCast]
    exact if_neg fun x => h1 x.2.1
  · rw [mostTo, h, Int.toNat_natCast]
    refine if_neg fun x => ?_
    rcases x.2.2 with y | y
    · rw [h1] at y; cases y
    · exact h2 y
set_option maxRecDepth 100000 in
set_option maxHeartbeats 8000000 in
theorem clockOrders_walk (A : Option Addr) (l : List T3) (c : Nat) (B : Option Addr) (q : List Int) (cb : Nat) (w : World) (_hcap : l.length ≤ c) (hr : Rd w A (cellsT l)) (hrb : Rd w B (ints q)) :
    Calls Try.prog 7 #[.slice A l.length c, .slice B q.length cb] w fun e w' => e = .returned (.bool true) ∧ Below w.heap.size w w' := by
  have HL := fun w => Lib.hid (long_c A l.length c w)
  have HK := fun w => Lib.hid (known_c w)
  by_cases hlong : 40 < l.length
  · rw [decide_eq_true hlong] at HL
    go_enter Try.func7, Try.ntmps7
    go_wp2_with (fail)
    refine (HL _).out.mono ?_
    rintro e w1 ⟨rfl, rfl⟩
    go_wp2_with (fail)
    refine (HK _).out.mono ?_
    rintro e w2 ⟨rfl, hb2⟩
    go_wp2_with (fail)
    go_ret
    exact ⟨rfl, hb2⟩
  · rw [decide_eq_false hlong] at HL
    have hlen : l.length ≤ 1000 := by omega
    clear hlong
    by_cases h100 : 100 < q.length
    · have h100' : (100 : Int) < (q.length : Int) := by omega
      go_enter Try.func7, Try.ntmps7
      go_wp2_with (fail)
      refine (HL _).out.mono ?_
      rintro e w1 ⟨rfl, rfl⟩
      go_wp2_with (fail)
      refine (HK _).out.mono ?_
      rintro e w2 ⟨rfl, hb2⟩
      go_wp2_with (fail)
      go_ret
      exact ⟨rfl, hb2⟩
    · have h100' : ¬ (100 : Int) < (q.length : Int) := by omega
      have hq100 : (q.length : Int) ≤ 100 := by omega
      clear h100
      have H1 := Lib.hid (Late_c A l c w hlen hr)
      by_cases hv : validE l = 0
      · by_cases hz : l.length = 0
        · have hz0 : ((l.length : Int) == 0) = true := by simp [hz]
          have HZ := Lib.hid hz
          rw [hv] at H1
          generalize lateG l = M at *
          clear hv hz
          go_enter Try.func7, Try.ntmps7
          go_wp2_with (fail)
          refine (HL _).out.mono ?_
          rintro e w1 ⟨rfl, rfl⟩
          go_wp2_with (fail)
          refine H1.out.mono ?_
          rintro e w1 ⟨rfl, hb1⟩
          go_wp2_with (fail)
          refine (HK _).out.mono ?_
          rintro e wk ⟨rfl, hbk⟩
          go_wp2_with (fail)
          go_ret
          exact ⟨rfl, bl_call hb1 hbk⟩
        · have hz0 : ((l.length : Int) == 0) = false := by rw [beq_eq_false_iff_ne]; omega
          have hpos : 0 < l.length := by omega
          have hl := validE_ok.1 hv
          have h8 := hl.len
          have h8' : ¬ (8 : Int) < (l.length : Int) := by omega
          obtain ⟨pk, hpk⟩ : ∃ pk, pk = ordF q l.length := ⟨_, rfl⟩
          have hp : Picks pk l := by rw [hpk]; exact picks_ord q l
          have HPX : Hid (∀ t, pickG pk l t = ordTo (ordQ q l.length) l.length (leftG pk l t) t (q.length + l.length)) := by
            rw [hpk]
            exact fun t => rfl
          have hsp := lenG_spec hp hl
          have HZ : Hid (∀ t, t < lenG pk l → 0 < sumN (leftG pk l t)) := hsp.2.2
          have HE : Hid (sumN (leftG pk l (lenG pk l)) = 0) := hsp.2.1
          have HLEN := Lib.hid (leftG_len pk l)
          have HJ := Lib.hid (leftG_nonneg hp hl.jobs)
          have HSL := Lib.hid (sumN_le hl.jobs h8)
          have HNG : Hid (∀ k, k < l.length → ∀ c, (leftG pk l c).getD k t0 = ((l.getD k t0).1, (l.getD k t0).2.1, (l.getD k t0).2.2 - cntP (fun t => pickG pk l t == (k : Int)) c)) := fun k h c => leftG_get pk l k h c
          have HMR := Lib.hid (fun c (h : c ≤ 540) => mostTo_range hp hl c h)
          have HLATE : Hid (lateG l ≤ (mostTo pk l (lenG pk l)).1) := by show _ ≤ _; rw [lateG, if_pos hv]; exact order_late hp hl hpos
          have hN : lenG pk l ≤ 540 := hsp.1
          have HPK := Lib.hid (pick_is hp)
          rw [hv] at H1
          clear hv hz hpk hsp hpos
          generalize lateG l = M at *
          generalize lenG pk l = N at *
          go_enter Try.func7, Try.ntmps7
          go_wp2_with (fail)
          refine (HL _).out.mono ?_
          rintro e w1 ⟨rfl, rfl⟩
          go_wp2_with (fail)
          refine H1.out.mono ?_
          rintro e w1 ⟨rfl, hb1⟩
          obtain ⟨cs, hm1, hcs⟩ := make_ints l.length (by omega) w1
          have hR1 : Row (w1.alloc (.cells cs 3)) w1.heap.size (ndTo l 0) := by rw [hcs]; exact Bx.new w1 _ _
          have hb2 : Below w.heap.size w (w1.alloc (.cells cs 3)) := bl_alloc hb1 _
          clear hcs H1
          go_wp2_with (fail)
          generalize hw2 : w1.alloc (.cells cs 3) = w2 at *
          clear hw2 hm1
          have hg0 := hb1.size
          generalize w1.heap.size = g0 at *
          go_loopg [8, 9] l.length (fun gk sv iv wr => ∃ k : Nat, Hid (k + gk = l.length) ∧ iv = .int .i64 (k : Int) ∧ sv = .int .i64 (sumTo (fun k => (l.getD k t0).2.2) k) ∧ Row wr g0 (ndTo l k) ∧ Below w.heap.size w wr)
          case atStart => exact ⟨0, by simp [Hid], rfl, rfl, hR1, hb2⟩
          case round =>
            obtain ⟨k, HK2, rfl, rfl, hR, hb⟩ := hrel
            rcases gk with _ | gi
            · obtain rfl : k = l.length := HK2.out
              rw [ndTo_end, sumTo_need] at *
              have hs1 : ¬ (1000 : Int) < sumN l := by have := HSL.out; omega
              go_wp2_with (fail)
              go_loopg [8, 10, 11, 12] N (fun gk sv mv bv tv wr => ∃ (t : Nat) (m : Int) (sm : Bool), Hid (t + gk = N) ∧ tv = .int .i64 (t : Int) ∧ sv = .int .i64 (sumN (leftG pk l t)) ∧ mv = .int .i64 m ∧ bv = .bool sm ∧ Hid (mostTo pk l t = (m, sm)) ∧ Row wr g0 (needs (leftG pk l t)) ∧ Below w.heap.size w wr)
              case atStart => exact ⟨0, 0, false, by simp [Hid], rfl, rfl, rfl, rfl, rfl, hR, hb⟩
              case round =>
                clear hR hb
                obtain ⟨t, m, sm, HT, rfl, rfl, rfl, rfl, HM, hR, hb⟩ := hrel
                rcases gk with _ | gi
                · obtain rfl : t = N := HT.out
                  have hle : M ≤ m := by have := HLATE.out; rw [HM.out] at this; exact this
                  rw [HE.out]
                  clear hs1
                  go_wp2_with (fail)
                  refine (HK _).out.mono ?_
                  rintro e wk ⟨rfl, hbk⟩
                  go_wp2_with (fail)
                  go_ret
                  exact ⟨rfl, bl_call hb hbk⟩
                · have htN : t < N := by have := HT.out; omega
                  have hs0 := HZ.out t htN
                  have htb : (t : Int) ≤ 540 := by omega
                  have ht2 : (t : Int) < 2000 := by omega
                  have HLt := Lib.hid (HLEN.out t)
                  have HRG := Lib.hid (ordTo_range (ordQ q l.length) l.length (leftG pk l t) t)
                  obtain ⟨wx, rfl⟩ : ∃ wx, wx = wr := ⟨_, rfl⟩
                  clear hs1
                  go_wp2_with (fail)
                  go_loopg [13, 14] (q.length + l.length) (fun gk bv iv wq => ∃ (i : Nat) (f : Int), Hid (i + gk = q.length + l.length) ∧ iv = .int .i64 (i : Int) ∧ bv = .int .i64 f ∧ Hid (ordTo (ordQ q l.length) l.length (leftG pk l t) t i = f) ∧ wq = wx)
                  case atStart => exact ⟨0, -1, by simp [Hid], rfl, rfl, rfl, rfl⟩
                  case round =>
                    obtain ⟨i, f, HI, rfl, rfl, HF, rfl⟩ := hrel
                    have hib : (i : Int) ≤ 1000 := by have := HI.out; omega
                    have HRB := Lib.hid (HRG.out i)
                    rw [HF.out] at HRB
                    rcases gk with _ | gi'
                    · have hi : i = q.length + l.length := HI.out
                      have hfe : f = pickG pk l t := by rw [HPX.out, ← hi]; exact HF.out.symm
                      have HIE : Hid ((i : Int) = (q.length : Int) + (l.length : Int)) := by show _ = _; omega
                      have hie : ¬ (i : Int) < (q.length : Int) + (l.length : Int) := by omega
                      have HS2 : Hid (leftG pk l (t + 1) = stepL (leftG pk l t) f) := by rw [hfe]; rfl
                      have HPF := Lib.hid hfe
                      clear hi hfe HI
                      have hv1 : ((t + 1 : Nat) : Int) = (t : Int) + 1 := by omega
                      rcases HRB.out with rfl | ⟨j, rfl, hjn⟩
                      · have HM2 : Hid (mostTo pk l (t + 1) = (m, sm)) := by show _ = _; rw [mostTo_idle HPF.out.symm]; exact HM.out
                        have HS3 : Hid (leftG pk l (t + 1) = leftG pk l t) := by show _ = _; rw [HS2.out, stepL_none]
                        clear HS2
                        go_wp2_with (fail)
                        go_roundg gi
                        case rel => exact ⟨t + 1, m, sm, by have := HT.out; show _ = _; omega, by rw [hv1], by rw [HS3.out], rfl, rfl, HM2.out, by rw [HS3.out]; exact hR, hb⟩
                        case measure => omega
                      · have hjn' : (j : Int) < (l.length : Int) := by omega
                        have hj0 : ¬ (j : Int) < 0 := by omega
                        have hjl : j < (leftG pk l t).length := by rw [HLt.out]; exact hjn
                        have HS3 : Hid (leftG pk l (t + 1) = (leftG pk l t).set j (decJ ((leftG pk l t).getD j t0))) := by
                          show _ = _
                          rw [HS2.out, stepL, if_neg (by omega), Int.toNat_natCast]
                        have HSN : Hid (sumN (leftG pk l (t + 1)) = sumN (leftG pk l t) - 1) := by
                          show _ = _
                          rw [HS2.out, sumN_step hjl]
                        have y0 := hR.get (k := j) (by rw [needs_len]; exact hjl)
                        have y1 := hR.free j
                        rw [needs_get] at y0
                        have hj := (HJ.out t).get (k := j) hjl
                        have hn0 := hj.n0
                        have hn1 := hj.n1
                        have hset := hR.set j (((leftG pk l t).getD j t0).2.2 - 1)
                        rw [needs_set, ← HS3.out] at hset
                        have hssz : sumN (leftG pk l t) ≤ 100000 := by
                          have := sumN_le (HJ.out t) (by rw [HLt.out]; exact h8)
                          omega
                        have hbs := bl_set hb (g := g0) (i := j) hg0 (.int .i64 (((leftG pk l t).getD j t0).2.2 - 1))
                        have HND : ((leftG pk l (t + 1)).getD j t0).2.2 = ((leftG pk l t).getD j t0).2.2 - 1 := by
                          rw [HS3.out]
                          simp [List.getD_eq_getElem?_getD, List.getElem?_set_self hjl, decJ]
                        have y2 := hset.get (k := j) (by rw [needs_len, HS3.out, List.length_set]; exact hjl)
                        rw [needs_get, HND] at y2
                        have HM3 := mostTo_one HPF.out.symm
                        rw [HND, HM.out] at HM3
                        have HM3 := Lib.hid HM3
                        obtain ⟨b, o, rfl, hcc⟩ := hr.tris hjn
                        obtain ⟨c0, c1, c2⟩ := hcc _ hb
                        obtain ⟨c0', c1', c2'⟩ := hcc _ hbs
                        clear hcc
                        have hjj := hl.jobs.get (k := j) hjn
                        have f0 := hjj.f0
                        have fb := hjj.fb
                        have b1 := hjj.b1
                        clear HS2 HND hj hjj hR hb HM hjl HRB
                        generalize ((leftG pk l t).getD j t0).2.2 = nd at *
                        generalize l.getD j t0 = y at *
                        obtain ⟨g0', g1', g2'⟩ := y
                        simp only [] at c0 c1 c2 c0' c1' c2' f0 fb b1
                        have HM3 : Hid ((nd - 1 = 0 → (sm = false ∨ m < (t : Int) + 1 - g1') → mostTo pk l (t + 1) = ((t : Int) + 1 - g1', true)) ∧ (nd - 1 ≠ 0 → mostTo pk l (t + 1) = (m, sm)) ∧ (sm = true → ¬ m < (t : Int) + 1 - g1' → mostTo pk l (t + 1) = (m, sm))) := HM3.out
                        have HE2 : Hid (sumN (leftG pk l (t + 1)) = sumN (leftG pk l t) - 1) := HSN.out
                        by_cases hnd : nd - 1 = 0
                        · have hnb : (nd - 1 == 0) = true := by rw [beq_iff_eq]; exact hnd
                          have HND := Lib.hid hnd
                          clear hnd
                          cases sm with
                          | false =>
                            have HM4 := Lib.hid (HM3.out.1 HND.out (.inl rfl))
                            go_wp2_with (fail)
                            go_roundg gi
                            case rel => exact ⟨t + 1, _, true, by have := HT.out; show _ = _; omega, by rw [hv1], by rw [HSN.out], rfl, rfl, HM4.out, hset, hbs⟩
                            case measure => omega
                          | true =>
                            by_cases hmn : m < (t : Int) + 1 - g1'
                            · have HM4 := Lib.hid (HM3.out.1 HND.out (.inr hmn))
                              go_wp2_with (fail)
                              go_roundg gi
                              case rel => exact ⟨t + 1, _, true, by have := HT.out; show _ = _; omega, by rw [hv1], by rw [HSN.out], rfl, rfl, HM4.out, hset, hbs⟩
                              case measure => omega
                            · have HM4 := Lib.hid (HM3.out.2.2 rfl hmn)
                              go_wp2_with (fail)
                              go_roundg gi
                              case rel => exact ⟨t + 1, _, true, by have := HT.out; show _ = _; omega, by rw [hv1], by rw [HSN.out], rfl, rfl, HM4.out, hset, hbs⟩
                              case measure => omega
                        · have hnb : (nd - 1 == 0) = false := by rw [beq_eq_false_iff_ne]; exact hnd
                          have HM4 := Lib.hid (HM3.out.2.1 hnd)
                          clear hnd
                          go_wp2_with (fail)
                          go_roundg gi
                          case rel => exact ⟨t + 1, _, sm, by have := HT.out; show _ = _; omega, by rw [hv1], by rw [HSN.out], rfl, rfl, HM4.out, hset, hbs⟩
                          case measure => omega
                    · have hie : (i : Int) < (q.length : Int) + (l.length : Int) := by have := HI.out; omega
                      by_cases hiq : i < q.length
                      · have hiq' : (i : Int) < (q.length : Int) := by omega
                        have HXQ := Lib.hid (ordQ_first (n := l.length) hiq)
                        obtain ⟨bb, ob, rfl, _, hcc⟩ := (hrb.later hb).at_ (k := i) (by rw [ints_length]; exact hiq)
                        have hcq := hcc i _ (ints_get hiq)
                        clear hcc
                        generalize q.getD i 0 = x at *
                        rcases HRB.out with rfl | ⟨j, rfl, hjn⟩
                        · by_cases hx0 : x < 0
                          · have HS := Lib.hid (ordTo_skip HXQ.out HF.out (by omega))
                            go_wp2_with (fail)
                            go_roundg gi'
                            case rel => exact ⟨i + 1, -1, by have := HI.out; show _ = _; omega, by go_num, rfl, HS.out, rfl⟩
                            case measure => omega
                          · by_cases hxn : (l.length : Int) ≤ x
                            · have HS := Lib.hid (ordTo_skip HXQ.out HF.out (by omega))
                              have hx0' : 0 ≤ x := by omega
                              go_wp2_with (fail)
                              go_roundg gi'
                              case rel => exact ⟨i + 1, -1, by have := HI.out; show _ = _; omega, by go_num, rfl, HS.out, rfl⟩
                              case measure => omega
                            · obtain ⟨kk, rfl⟩ := Int.eq_ofNat_of_zero_le (show 0 ≤ x by omega)
                              have hkl : kk < l.length := by omega
                              have hkl' : (kk : Int) < (l.length : Int) := by omega
                              have y0 := hR.get (k := kk) (by rw [needs_len, HLt.out]; exact hkl)
                              rw [needs_get] at y0
                              have HA : Hid (availB (leftG pk l t) t kk = (decide (0 < ((leftG pk l t).getD kk t0).2.2) && decide ((l.getD kk t0).1 ≤ (t : Int)))) := by
                                show _ = _
                                rw [availB, HNG.out kk hkl t]
                              obtain ⟨b, o, rfl, hbl, c0, c1, c2⟩ := (hr.later hb).tri hkl
                              generalize ((leftG pk l t).getD kk t0).2.2 = nd at *
                              clear hx0 hxn
                              by_cases hnd : 0 < nd
                              · by_cases hf : (l.getD kk t0).1 ≤ (t : Int)
                                · have HS := Lib.hid (ordTo_take HXQ.out HF.out hkl (by rw [HA.out, decide_eq_true hnd, decide_eq_true hf]; rfl))
                                  generalize l.getD kk t0 = y at *
                                  obtain ⟨g0', g1', g2'⟩ := y
                                  simp only [] at c0 c1 hf
                                  clear HA
                                  go_wp2_with (fail)
                                  go_roundg gi'
                                  case rel => exact ⟨i + 1, kk, by have := HI.out; show _ = _; omega, by go_num, rfl, HS.out, rfl⟩
                                  case measure => omega
                                · have HS := Lib.hid (ordTo_skip HXQ.out HF.out (fun z => by have z3 := z.2.2; rw [Int.toNat_natCast, HA.out, decide_eq_false hf, Bool.and_false] at z3; cases z3))
                                  generalize l.getD kk t0 = y at *
                                  obtain ⟨g0', g1', g2'⟩ := y
                                  simp only [] at c0 c1 hf
                                  have hf' : (t : Int) < g0' := by omega
                                  clear HA hf
                                  go_wp2_with (fail)
                                  go_roundg gi'
                                  case rel => exact ⟨i + 1, -1, by have := HI.out; show _ = _; omega, by go_num, rfl, HS.out, rfl⟩
                                  case measure => omega
                              · have HS := Lib.hid (ordTo_skip HXQ.out HF.out (fun z => by have z3 := z.2.2; rw [Int.toNat_natCast, HA.out, decide_eq_false hnd] at z3; cases z3))
                                clear HA
                                go_wp2_with (fail)
                                go_roundg gi'
                                case rel => exact ⟨i + 1, -1, by have := HI.out; show _ = _; omega, by go_num, rfl, HS.out, rfl⟩
                                case measure => omega
                        · have HS := Lib.hid (ordTo_keep HF.out)
                          have hj0 : ¬ (j : Int) < 0 := by omega
                          go_wp2_with (fail)
                          go_roundg gi'
                          case rel => exact ⟨i + 1, j, by have := HI.out; show _ = _; omega, by go_num, rfl, HS.out, rfl⟩
                          case measure => omega
                      · obtain ⟨ki, hki⟩ : ∃ ki : Nat, i = q.length + ki := ⟨i - q.length, by omega⟩
                        have hkin : ki < l.length := by have := HI.out; omega
                        have HXQ : Hid ((ordQ q l.length).getD i 0 = (ki : Int)) := by show _ = _; rw [hki]; exact ordQ_rest hkin
                        have hxe : (i : Int) - (q.length : Int) = (ki : Int) := by omega
                        have hiq' : ¬ (i : Int) < (q.length : Int) := by omega
                        have hiz : (0 : Int) ≤ (i : Int) := by omega
                        clear hki hiq
                        have hki0 : (0 : Int) ≤ (ki : Int) := by omega
                        have hkin' : (ki : Int) < (l.length : Int) := by omega
                        obtain ⟨x, hxx⟩ : ∃ x : Int, x = (ki : Int) := ⟨_, rfl⟩
                        rw [← hxx] at HXQ hxe hki0 hkin'
                        clear hxx hkin
                        rcases HRB.out with rfl | ⟨j, rfl, hjn⟩
                        · by_cases hx0 : x < 0
                          · exact absurd hx0 (by omega)
                          · by_cases hxn : (l.length : Int) ≤ x
                            · exact absurd hxn (by omega)
                            · obtain ⟨kk, rfl⟩ := Int.eq_ofNat_of_zero_le (show 0 ≤ x by omega)
                              have hkl : kk < l.length := by omega
                              have hkl' : (kk : Int) < (l.length : Int) := by omega
                              have y0 := hR.get (k := kk) (by rw [needs_len, HLt.out]; exact hkl)
                              rw [needs_get] at y0
                              have HA : Hid (availB (leftG pk l t) t kk = (decide (0 < ((leftG pk l t).getD kk t0).2.2) && decide ((l.getD kk t0).1 ≤ (t : Int)))) := by
                                show _ = _
                                rw [availB, HNG.out kk hkl t]
                              obtain ⟨b, o, rfl, hbl, c0, c1, c2⟩ := (hr.later hb).tri hkl
                              generalize ((leftG pk l t).getD kk t0).2.2 = nd at *
                              clear hx0 hxn
                              by_cases hnd : 0 < nd
                              · by_cases hf : (l.getD kk t0).1 ≤ (t : Int)
                                · have HS := Lib.hid (ordTo_take HXQ.out HF.out hkl (by rw [HA.out, decide_eq_true hnd, decide_eq_true hf]; rfl))
                                  generalize l.getD kk t0 = y at *
                                  obtain ⟨g0', g1', g2'⟩ := y
                                  simp only [] at c0 c1 hf
                                  clear HA
                                  go_wp2_with (fail)
                                  go_roundg gi'
                                  case rel => exact ⟨i + 1, kk, by have := HI.out; show _ = _; omega, by go_num, rfl, HS.out, rfl⟩
                                  case measure => omega
                                · have HS := Lib.hid (ordTo_skip HXQ.out HF.out (fun z => by have z3 := z.2.2; rw [Int.toNat_natCast, HA.out, decide_eq_false hf, Bool.and_false] at z3; cases z3))
                                  generalize l.getD kk t0 = y at *
                                  obtain ⟨g0', g1', g2'⟩ := y
                                  simp only [] at c0 c1 hf
                                  have hf' : (t : Int) < g0' := by omega
                                  clear HA hf
                                  go_wp2_with (fail)
                                  go_roundg gi'
                                  case rel => exact ⟨i + 1, -1, by have := HI.out; show _ = _; omega, by go_num, rfl, HS.out, rfl⟩
                                  case measure => omega
                              · have HS := Lib.hid (ordTo_skip HXQ.out HF.out (fun z => by have z3 := z.2.2; rw [Int.toNat_natCast, HA.out, decide_eq_false hnd] at z3; cases z3))
                                clear HA
                                go_wp2_with (fail)
                                go_roundg gi'
                                case rel => exact ⟨i + 1, -1, by have := HI.out; show _ = _; omega, by go_num, rfl, HS.out, rfl⟩
                                case measure => omega
                        · have HS := Lib.hid (ordTo_keep HF.out)
                          have hj0 : ¬ (j : Int) < 0 := by omega
                          go_wp2_with (fail)
                          go_roundg gi'
                          case rel => exact ⟨i + 1, j, by have := HI.out; show _ = _; omega, by go_num, rfl, HS.out, rfl⟩
                          case measure => omega
            · have hkl : k < l.length := by have := HK2.out; omega
              have hkl' : (k : Int) < (l.length : Int) := by omega
              obtain ⟨b, o, rfl, hbl, c0, c1, c2⟩ := (hr.later hb).tri hkl
              have y1 := hR.free k
              obtain ⟨v, y0⟩ : ∃ v, wr.cell? ⟨g0, k, none⟩ = some v := ⟨_, hR.get (by simpa using hkl)⟩
              have hset := hR.set k (l.getD k t0).2.2
              have hbs := bl_set hb (g := g0) (i := k) hg0 (.int .i64 (l.getD k t0).2.2)
              have HD : Hid ((wr.setCell ⟨g0, k, none⟩ (.int .i64 (l.getD k t0).2.2)).cell? ⟨b, o + k * 3 + 2, none⟩ = some (.int .i64 (l.getD k t0).2.2)) := by
                obtain ⟨b', o', he, h⟩ := hr.tris hkl
                injection he with he
                injection he with e1 e2
                subst e1 e2
                exact (h _ hbs).2.2
              have hj := hl.jobs.get hkl
              have HS : Hid (sumTo (fun k => (l.getD k t0).2.2) (k + 1) = sumTo (fun k => (l.getD k t0).2.2) k + (l.getD k t0).2.2) := rfl
              have HS1 := sumTo_nonneg (f := fun k => (l.getD k t0).2.2) (n := k) (fun j h => (hl.jobs.get (show j < l.length by omega)).n0)
              have HS2 : sumTo (fun k => (l.getD k t0).2.2) k ≤ 100000 := by
                have h1 := sumTo_le (f := fun k => (l.getD k t0).2.2) (g := fun _ => 60) (n := k) (fun j h => (hl.jobs.get (show j < l.length by omega)).n1)
                have h2 : ∀ n : Nat, sumTo (fun _ => 60) n = 60 * n := by
                  intro n
                  induction n with
                  | zero => rfl
                  | succ n ih => simp only [sumTo, ih]; omega
                rw [h2] at h1
                omega
              have hn0 := hj.n0
              have hn1 := hj.n1
              have HRS : Hid (ndTo l (k + 1) = (ndTo l k).set k (l.getD k t0).2.2) := rfl
              rw [← HRS.out] at hset
              have hd := HD.out
              generalize sumTo (fun k => (l.getD k t0).2.2) k = S at *
              generalize l.getD k t0 = x at *
              obtain ⟨x0, x1, x2⟩ := x
              simp only [] at c0 c1 c2 hset hbs hd hn0 hn1 HS
              clear HRS HD hj
              go_wp2_with (fail)
              go_roundg gi
              case rel => exact ⟨k + 1, by have := HK2.out; show _ = _; omega, by go_num, by rw [HS.out], hset, hbs⟩
              case measure => omega
      · have hv' : (validE l != 0) = true := by simpa using hv
        generalize validE l = v at *
        generalize lateG l = M at *
        go_enter Try.func7, Try.ntmps7
        go_wp2_with (fail)
        refine (HL _).out.mono ?_
        rintro e w1 ⟨rfl, rfl⟩
        go_wp2_with (fail)
        refine H1.out.mono ?_
        rintro e w1 ⟨rfl, hb1⟩
        go_wp2_with (fail)
        refine (HK _).out.mono ?_
        rintro e wk ⟨rfl, hbk⟩
        go_wp2_with (fail)
        go_ret
        exact ⟨rfl, bl_call hb1 hbk⟩
end Go.Proofs.Ytiffgaelndajpaa
