/- The document's CheckWindows. -/
import Derived.Test.YtlhnbknilcmleaaRisw
import Derived.Test.YtlhnbknilcmleaaChw
namespace Go.Proofs.Ytlhnbknilcmleaa
open Go.RowKit

theorem numB_in (n : Int) (l : List T3) (a b c : Int) : numB n l (a, b, c) = (inB a 0 (n - 1) && inB b 0 ((l.length : Int) - 1) && inB c 0 ((l.length : Int) - 1)) := rfl
theorem meet_cases (g0 g1 g2 x0 x1 x2 : Int) : (g0 ≠ x0 ∧ meetB (x0, x1, x2) (g0, g1, g2) = false) ∨ (g0 = x0 ∧ ¬ g1 < x2 ∧ meetB (x0, x1, x2) (g0, g1, g2) = false) ∨ (g0 = x0 ∧ g1 < x2 ∧ ¬ x1 < g2 ∧ meetB (x0, x1, x2) (g0, g1, g2) = false) ∨ (g0 = x0 ∧ g1 < x2 ∧ x1 < g2 ∧ meetB (x0, x1, x2) (g0, g1, g2) = true) := by
  by_cases h0 : g0 = x0
  · by_cases h1 : g1 < x2
    · by_cases h2 : x1 < g2
      · exact .inr (.inr (.inr ⟨h0, h1, h2, by simp [meetB, h0, h1, h2]⟩))
      · exact .inr (.inr (.inl ⟨h0, h1, h2, by simp [meetB, h2]⟩))
    · exact .inr (.inl ⟨h0, h1, by simp [meetB, h1]⟩)
  · have h : (x0 == g0) = false := by simpa using fun e : x0 = g0 => h0 e.symm
    exact .inl ⟨h0, by simp [meetB, h]⟩

set_option maxRecDepth 100000 in
set_option maxHeartbeats 8000000 in
theorem rCheckWindows_c (n : Int) (A : Option Addr) (l : List T3) (c : Nat) (lim : Int) (B : Option Addr) (ws : List T3) (d : Nat) (w : World) (hlen : l.length ≤ 1000) (hcap : l.length ≤ c) (hwl : ws.length ≤ 1000) (hr : Rd w A (cellsT l)) (hs : Rd w B (cellsT ws)) :
    Calls Try.prog 40 #[.int .i64 n, .slice A l.length c, .int .i64 lim, .slice B ws.length d] w fun e w' => e = .returned (.tuple #[.int .i64 (winV n l lim ws), .int .i64 (winE n l lim ws)]) ∧ Below w.heap.size w w' := by
  have HV := Lib.hid (rlimited_c n A l c lim w hlen hr)
  rcases winE_cases n l lim ws with ⟨h1, h2, h3⟩ | ⟨h1, h2, h3, h4⟩ | ⟨h1, h2, h3, h4, h5⟩
  · have hv' : (limE n l lim != 0) = true := by simpa using h1
    rw [h2, h3]
    clear h2 h3
    generalize limE n l lim = ev at *
    go_enter Try.func40, Try.ntmps40
    go_wp2_with (go_at_call 63; refine HV.out.mono ?_; rintro e w1 ⟨rfl, hb1⟩)
    go_ret2
    exact ⟨rfl, hb1⟩
  · have h2' : (20 : Int) < (ws.length : Int) := by omega
    rw [h1] at HV
    rw [h3, h4]
    clear h1 h3 h4
    go_enter Try.func40, Try.ntmps40
    go_wp2_with (go_at_call 63; refine HV.out.mono ?_; rintro e w1 ⟨rfl, hb1⟩)
    go_ret2
    exact ⟨rfl, hb1⟩
  · have h2' : ¬ (20 : Int) < (ws.length : Int) := by omega
    have ha := (limE_len h1).2.1
    obtain ⟨hn1, hn4⟩ := (validE_zero.1 (limE_zero.1 h1).1).1
    have H3 := Lib.hid h3
    have H4 := Lib.hid h4
    have H5 := Lib.hid h5
    have HWG := Lib.hid (fun k => @wsTo_get n l lim ws k)
    have HWA := Lib.hid (@wsTo_all n l lim ws)
    rw [h1] at HV
    clear h1 h3 h4 h5
    go_enter Try.func40, Try.ntmps40
    go_wp2_with (go_at_call 63; refine HV.out.mono ?_; rintro e w1 ⟨rfl, hb1⟩)
    go_loopg [11] ws.length (fun gk iv wr => ∃ k : Nat, Hid (k + gk = ws.length) ∧ iv = .int .i64 (k : Int) ∧ Hid (∀ j, j < k → w1E n l lim (ws.getD j t0) = 0) ∧ Below w.heap.size w wr)
    case atStart => exact ⟨0, by simp [Hid], rfl, fun j h => absurd h (by omega), hb1⟩
    case round =>
      obtain ⟨k, HK, rfl, HP, hb⟩ := hrel
      have hsr := hs.later hb
      have hrr := hr.later hb
      rcases gk with _ | gi
      · obtain rfl : k = ws.length := HK.out
        have hz := HWA.out HP.out
        have H4' := Lib.hid (H4.out hz)
        have H5' := Lib.hid (H5.out hz)
        clear hz
        go_wp2_with (fail)
        obtain ⟨wq, rfl⟩ : ∃ wq, wq = wr := ⟨_, rfl⟩
        go_loopg [12, 13] ws.length (fun gk iv _ wr => ∃ i : Nat, Hid (i + gk = ws.length) ∧ iv = .int .i64 (i : Int) ∧ Hid (∀ i' k, k < i' → i' < i → meetB (ws.getD k t0) (ws.getD i' t0) = false) ∧ Below w.heap.size w wr)
        case atStart => exact ⟨0, by simp [Hid], rfl, fun i' k _ h => absurd h (by omega), hb⟩
        case round =>
          obtain ⟨i, HI, rfl, HPP, hbi⟩ := hrel
          rcases gk with _ | gi
          · obtain rfl : i = ws.length := HI.out
            obtain ⟨e1, e2⟩ := H5'.out (anyMeet_false.2 HPP.out)
            have E1 := Lib.hid e1
            have E2 := Lib.hid e2
            clear e1 e2
            go_wp2_with (fail)
            go_ret2
            exact ⟨by rw [E1.out, E2.out]; rfl, hbi⟩
          · have hil : i < ws.length := by have := HI.out; omega
            have hil' : (i : Int) < (ws.length : Int) := by omega
            have hsi := hs.later hbi
            have HNM := Lib.hid (@noMeet_range ws i)
            have HAM : Hid (∀ k, k < i → meetB (ws.getD k t0) (ws.getD i t0) = true → anyMeet ws = true) := fun k hk h => by
              cases ha : anyMeet ws with
              | true => rfl
              | false => rw [anyMeet_false.1 ha i k hk hil] at h; cases h
            obtain ⟨wo, rfl⟩ : ∃ wo, wo = wr := ⟨_, rfl⟩
            go_wp2_with (fail)
            go_loopg [13] i (fun gk iv wr => ∃ k : Nat, Hid (k + gk = i) ∧ iv = .int .i64 (k : Int) ∧ Hid (∀ k', k' < k → meetB (ws.getD k' t0) (ws.getD i t0) = false) ∧ Below w.heap.size w wr)
            case atStart => exact ⟨0, by simp [Hid], rfl, fun k h => absurd h (by omega), hbi⟩
            case round =>
              obtain ⟨q, HQK, rfl, HQ, hbq⟩ := hrel
              rcases gk with _ | gj
              · obtain rfl : q = i := HQK.out
                go_wp2_with (fail)
                go_roundg gi
                case rel => exact ⟨q + 1, by have := HI.out; show _ = _; omega, by go_num, HNM.out HQ.out HPP.out, hbq⟩
                case measure => omega
              · have hqi : q < i := by have := HQK.out; omega
                have hqi' : (q : Int) < (i : Int) := by omega
                have hql : q < ws.length := by omega
                have hql' : (q : Int) < (ws.length : Int) := by omega
                obtain ⟨b, o, rfl, hbl, ⟨d0, d1, d2⟩, c0, c1, c2⟩ := (hs.later hbq).tri2 hql hil
                have HM1 := Lib.hid (HAM.out q hqi)
                have HQ2 : Hid (meetB (ws.getD q t0) (ws.getD i t0) = false → ∀ k', k' < q + 1 → meetB (ws.getD k' t0) (ws.getD i t0) = false) := fun h k' hk' => by
                  rcases Nat.lt_or_ge k' q with x | x
                  · exact HQ.out k' x
                  · obtain rfl : k' = q := by omega
                    exact h
                generalize hgi : ws.getD i t0 = g at c0 c1 c2 HM1
                generalize hgq : ws.getD q t0 = x at d0 d1 d2 HM1
                rw [hgi, hgq] at HQ2
                have HGI := Lib.hid hgi
                clear hgi hgq
                obtain ⟨g0, g1, g2⟩ := g
                obtain ⟨x0, x1, x2⟩ := x
                simp only [] at c0 c1 c2 d0 d1 d2
                rcases meet_cases g0 g1 g2 x0 x1 x2 with ⟨m0, m1⟩ | ⟨rfl, m0, m1⟩ | ⟨rfl, m2, m0, m1⟩ | ⟨rfl, m2, m0, m1⟩
                · have HX := Lib.hid (HQ2.out m1)
                  have q0 : (g0 == x0) = false := by simpa using m0
                  clear m1
                  go_wp2_with (fail)
                  go_quiet (fail)
                  go_wp2_with (fail)
                  go_roundg gj
                  case rel => exact ⟨q + 1, by have := HQK.out; show _ = _; omega, by go_num, by rw [HGI.out]; exact HX.out, below_drewN hbq _⟩
                  case measure => omega
                · have HX := Lib.hid (HQ2.out m1)
                  have q0 : decide (g1 < x2) = false := decide_eq_false m0
                  clear m1
                  go_wp2_with (fail)
                  go_quiet (fail)
                  go_wp2_with (fail)
                  go_roundg gj
                  case rel => exact ⟨q + 1, by have := HQK.out; show _ = _; omega, by go_num, by rw [HGI.out]; exact HX.out, below_drewN hbq _⟩
                  case measure => omega
                · have HX := Lib.hid (HQ2.out m1)
                  have q1 : decide (g1 < x2) = true := decide_eq_true m2
                  have q0 : decide (x1 < g2) = false := decide_eq_false m0
                  clear m1
                  go_wp2_with (fail)
                  go_quiet (fail)
                  go_wp2_with (fail)
                  go_roundg gj
                  case rel => exact ⟨q + 1, by have := HQK.out; show _ = _; omega, by go_num, by rw [HGI.out]; exact HX.out, below_drewN hbq _⟩
                  case measure => omega
                · obtain ⟨e1, e2⟩ := H4'.out (HM1.out m1)
                  have E1 := Lib.hid e1
                  have E2 := Lib.hid e2
                  have q1 : decide (g1 < x2) = true := decide_eq_true m2
                  have q0 : decide (x1 < g2) = true := decide_eq_true m0
                  clear m1 e1 e2
                  go_wp2_with (fail)
                  go_quiet (fail)
                  go_wp2_with (fail)
                  go_ret2
                  exact ⟨by rw [E1.out, E2.out]; rfl, below_drewN hbq _⟩
      · have hkl : k < ws.length := by have := HK.out; omega
        have hkl' : (k : Int) < (ws.length : Int) := by omega
        obtain ⟨b, o, rfl, hbl, c0, c1, c2⟩ := hsr.tri hkl
        have HB : Hid (w1E n l lim (ws.getD k t0) ≠ 0 → winE n l lim ws = w1E n l lim (ws.getD k t0) ∧ winV n l lim ws = 0) := fun h => by
          have e := HWG.out k hkl HP.out h
          have h3 := H3.out (by rw [e]; exact h)
          exact ⟨h3.1.trans e, h3.2⟩
        have HG : Hid (w1E n l lim (ws.getD k t0) = 0 → ∀ j, j < k + 1 → w1E n l lim (ws.getD j t0) = 0) := fun h j hj => by
          rcases Nat.lt_or_ge j k with x | x
          · exact HP.out j x
          · obtain rfl : j = k := by omega
            exact h
        generalize ws.getD k t0 = g at c0 c1 c2 HB HG
        obtain ⟨x0, x1, x2⟩ := g
        simp only [] at c0 c1 c2
        have hnum := numB_in n l x0 x1 x2
        by_cases hn : numB n l (x0, x1, x2) = true
        · rw [hn] at hnum
          replace hnum := hnum.symm
          simp only [Bool.and_eq_true] at hnum
          obtain ⟨⟨b0, b1⟩, b2⟩ := hnum
          have b1' := inB_z.1 b1
          have b2' := inB_z.1 b2
          obtain ⟨f, rfl⟩ : ∃ f : Nat, x1 = f := ⟨x1.toNat, by omega⟩
          obtain ⟨t, rfl⟩ : ∃ t : Nat, x2 = t := ⟨x2.toNat, by omega⟩
          have hf : f < l.length := by omega
          have ht : t < l.length := by omega
          have HW := fun w1 h => Lib.hid (risWindow_c A l c lim x0 f t w1 hlen hcap ha hf ht h)
          clear b1' b2'
          cases hw : winB l lim (x0, (f : Int), (t : Int)) with
          | true =>
            have HX := Lib.hid (HG.out (w1E_zero.2 ⟨hn, hw⟩))
            rw [hw] at HW
            clear hn hw
            go_wp2_with (first | (go_at_call 59; refine (within_c _ _ _ _).mono ?_; rintro e w' ⟨rfl, rfl⟩) | (go_at_call 72; refine (HW _ hrr).out.mono ?_; rintro e w2 ⟨rfl, hb2⟩))
            go_roundg gi
            case rel => exact ⟨k + 1, by have := HK.out; show _ = _; omega, by go_num, HX.out, bl_call hb hb2⟩
            case measure => omega
          | false =>
            have e7 := w1E_win (n := n) hn hw
            obtain ⟨e1, e2⟩ := HB.out (by rw [e7]; decide)
            rw [e7] at e1
            have E1 := Lib.hid e1
            have E2 := Lib.hid e2
            rw [hw] at HW
            clear hn hw e7 e1 e2
            go_wp2_with (first | (go_at_call 59; refine (within_c _ _ _ _).mono ?_; rintro e w' ⟨rfl, rfl⟩) | (go_at_call 72; refine (HW _ hrr).out.mono ?_; rintro e w2 ⟨rfl, hb2⟩))
            go_ret2
            exact ⟨by rw [E1.out, E2.out]; rfl, bl_call hb hb2⟩
        · have hn : numB n l (x0, x1, x2) = false := by simpa using hn
          have e7 := w1E_num (lim := lim) hn
          obtain ⟨e1, e2⟩ := HB.out (by rw [e7]; decide)
          rw [e7] at e1
          have E1 := Lib.hid e1
          have E2 := Lib.hid e2
          rw [hn] at hnum
          have hc : inB x0 0 (n - 1) = false ∨ (inB x0 0 (n - 1) = true ∧ inB x1 0 ((l.length : Int) - 1) = false) ∨ (inB x0 0 (n - 1) = true ∧ inB x1 0 ((l.length : Int) - 1) = true ∧ inB x2 0 ((l.length : Int) - 1) = false) := by
            cases h0 : inB x0 0 (n - 1) with
            | false => exact .inl rfl
            | true =>
              cases h1 : inB x1 0 ((l.length : Int) - 1) with
              | false => exact .inr (.inl ⟨rfl, rfl⟩)
              | true => rw [h0, h1] at hnum; exact .inr (.inr ⟨rfl, rfl, hnum.symm⟩)
          clear hn hnum e7 e1 e2
          rcases hc with b0 | ⟨b0, b1⟩ | ⟨b0, b1, b2⟩
          all_goals
            go_wp2_with (go_at_call 59; refine (within_c _ _ _ _).mono ?_; rintro e w' ⟨rfl, rfl⟩)
            go_ret2
            exact ⟨by rw [E1.out, E2.out]; rfl, hb⟩
end Go.Proofs.Ytlhnbknilcmleaa
