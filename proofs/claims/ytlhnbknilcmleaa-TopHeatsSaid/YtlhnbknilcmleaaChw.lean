/- Package heat's CheckWindows. -/
import Derived.Test.YtlhnbknilcmleaaIsw
import Derived.Test.YtlhnbknilcmleaaMeet
namespace Go.Proofs.Ytlhnbknilcmleaa
open Go.RowKit

theorem winE_cases (n : Int) (l : List T3) (lim : Int) (ws : List T3) :
    (limE n l lim ≠ 0 ∧ winE n l lim ws = limE n l lim ∧ winV n l lim ws = 0) ∨ (limE n l lim = 0 ∧ 20 < ws.length ∧ winE n l lim ws = 3 ∧ winV n l lim ws = 0) ∨
    (limE n l lim = 0 ∧ ws.length ≤ 20 ∧ (wsTo n l lim ws ≠ 0 → winE n l lim ws = wsTo n l lim ws ∧ winV n l lim ws = 0) ∧ (wsTo n l lim ws = 0 → anyMeet ws = true → winE n l lim ws = 8 ∧ winV n l lim ws = 0) ∧ (wsTo n l lim ws = 0 → anyMeet ws = false → winE n l lim ws = 0 ∧ winV n l lim ws = ws.length)) := by
  by_cases h1 : limE n l lim = 0
  · by_cases h2 : ws.length ≤ 20
    · refine .inr (.inr ⟨h1, h2, fun h3 => ?_, fun h3 h4 => ?_, fun h3 h4 => ?_⟩)
      · have e : winE n l lim ws = wsTo n l lim ws := by rw [winE, if_pos h1, if_pos h2, if_neg h3]
        exact ⟨e, by rw [winV, e, if_neg h3]⟩
      · have e : winE n l lim ws = 8 := by rw [winE, if_pos h1, if_pos h2, if_pos h3, if_pos h4]
        exact ⟨e, by rw [winV, e]; rfl⟩
      · have e : winE n l lim ws = 0 := by rw [winE, if_pos h1, if_pos h2, if_pos h3, h4]; rfl
        exact ⟨e, by rw [winV, if_pos e]⟩
    · have e : winE n l lim ws = 3 := by rw [winE, if_pos h1, if_neg h2]
      exact .inr (.inl ⟨h1, by omega, e, by rw [winV, e]; rfl⟩)
  · have e : winE n l lim ws = limE n l lim := by rw [winE, if_neg h1]
    exact .inl ⟨h1, e, by rw [winV, e, if_neg h1]⟩
theorem w1E_num {n : Int} {l : List T3} {lim : Int} {w : T3} (h : numB n l w = false) : w1E n l lim w = 1 := by rw [w1E, h]; rfl
theorem w1E_win {n : Int} {l : List T3} {lim : Int} {w : T3} (h : numB n l w = true) (h2 : winB l lim w = false) : w1E n l lim w = 7 := by rw [w1E, h, h2]; rfl
theorem numB_one (n : Int) (l : List T3) (a b c : Int) : numB n l (a, b, c) = (oneB a n && oneB b l.length && oneB c l.length) := by
  rw [oneB_inB, oneB_inB, oneB_inB]; rfl
theorem wsTo_all {n : Int} {l : List T3} {lim : Int} {ws : List T3} (h : ∀ j, j < ws.length → w1E n l lim (ws.getD j t0) = 0) : wsTo n l lim ws = 0 := wsTo_zero.2 fun w hw => by
  obtain ⟨j, hj, rfl⟩ := List.getElem_of_mem hw
  have := h j hj
  have e : ws.getD j t0 = ws[j] := by simp [hj]
  rwa [e] at this

set_option maxRecDepth 100000 in
set_option maxHeartbeats 4000000 in
theorem CheckWindows_c (n : Int) (A : Option Addr) (l : List T3) (c : Nat) (lim : Int) (B : Option Addr) (ws : List T3) (d : Nat) (w : World) (hlen : l.length ≤ 1000) (hcap : l.length ≤ c) (hwl : ws.length ≤ 1000) (hwc : ws.length ≤ d) (hr : Rd w A (cellsT l)) (hs : Rd w B (cellsT ws)) :
    Calls Try.prog 39 #[.int .i64 n, .slice A l.length c, .int .i64 lim, .slice B ws.length d] w fun e w' => e = .returned (.tuple #[.int .i64 (winV n l lim ws), .int .i64 (winE n l lim ws)]) ∧ Below w.heap.size w w' := by
  have HV := Lib.hid (validateBy_c n A l c lim w hlen hr)
  rcases winE_cases n l lim ws with ⟨h1, h2, h3⟩ | ⟨h1, h2, h3, h4⟩ | ⟨h1, h2, h3, h4, h5⟩
  · have hv' : (limE n l lim != 0) = true := by simpa using h1
    rw [h2, h3]
    clear h2 h3
    generalize limE n l lim = ev at *
    go_enter Try.func39, Try.ntmps39
    go_wp2_with (go_at_call 61; refine HV.out.mono ?_; rintro e w1 ⟨rfl, hb1⟩)
    go_ret2
    exact ⟨rfl, hb1⟩
  · have h2' : (20 : Int) < (ws.length : Int) := by omega
    rw [h1] at HV
    rw [h3, h4]
    clear h1 h3 h4
    go_enter Try.func39, Try.ntmps39
    go_wp2_with (go_at_call 61; refine HV.out.mono ?_; rintro e w1 ⟨rfl, hb1⟩)
    go_ret2
    exact ⟨rfl, hb1⟩
  · have h2' : ¬ (20 : Int) < (ws.length : Int) := by omega
    have ha := (limE_len h1).2.1
    have H3 := Lib.hid h3
    have H4 := Lib.hid h4
    have H5 := Lib.hid h5
    have HWG := Lib.hid (fun k => @wsTo_get n l lim ws k)
    have HWA := Lib.hid (@wsTo_all n l lim ws)
    rw [h1] at HV
    clear h1 h3 h4 h5
    go_enter Try.func39, Try.ntmps39
    go_wp2_with (go_at_call 61; refine HV.out.mono ?_; rintro e w1 ⟨rfl, hb1⟩)
    go_loopg [25] ws.length (fun gk iv wr => ∃ k : Nat, Hid (k + gk = ws.length) ∧ iv = .int .i64 (k : Int) ∧ Hid (∀ j, j < k → w1E n l lim (ws.getD j t0) = 0) ∧ Below w.heap.size w wr)
    case atStart => exact ⟨0, by simp [Hid], rfl, fun j h => absurd h (by omega), hb1⟩
    case round =>
      obtain ⟨k, HK, rfl, HP, hb⟩ := hrel
      have hsr := hs.later hb
      have hrr := hr.later hb
      rcases gk with _ | gi
      · obtain rfl : k = ws.length := HK.out
        have hz := HWA.out HP.out
        have HM := fun w1 h => Lib.hid (hasMeeting_c B ws d w1 hwl hwc h)
        cases hm : anyMeet ws with
        | true =>
          obtain ⟨e1, e2⟩ := H4.out hz hm
          rw [hm] at HM
          have E1 := Lib.hid e1
          have E2 := Lib.hid e2
          clear e1 e2 hz hm
          go_wp2_with (go_at_call 71; refine (HM _ hsr).out.mono ?_; rintro e w2 ⟨rfl, hb2⟩)
          go_ret2
          exact ⟨by rw [E1.out, E2.out]; rfl, bl_call hb hb2⟩
        | false =>
          obtain ⟨e1, e2⟩ := H5.out hz hm
          rw [hm] at HM
          have E1 := Lib.hid e1
          have E2 := Lib.hid e2
          clear e1 e2 hz hm
          go_wp2_with (go_at_call 71; refine (HM _ hsr).out.mono ?_; rintro e w2 ⟨rfl, hb2⟩)
          go_ret2
          exact ⟨by rw [E1.out, E2.out]; rfl, bl_call hb hb2⟩
      · have hkl : k < ws.length := by have := HK.out; omega
        have hkl' : (k : Int) < (ws.length : Int) := by omega
        obtain ⟨b, o, rfl, hbl, c0, c1, c2⟩ := hsr.tri hkl
        have HB : Hid (w1E n l lim (ws.getD k t0) ≠ 0 → winE n l lim ws = w1E n l lim (ws.getD k t0) ∧ winV n l lim ws = 0) := fun h => by
          have e := HWG.out k hkl HP.out h
          have h3 := H3.out (by rw [e]; exact h)
          exact ⟨h3.1.trans e, h3.2⟩
        have HG : Hid (w1E n l lim (ws.getD k t0) = 0 → ∀ j, j < k + 1 → w1E n l lim (ws.getD j t0) = 0) := fun h j hj => by
          rcases Nat.lt_or_ge j k with x | x
          · exact HP.out j x
          · obtain rfl : j = k := by omega
            exact h
        generalize ws.getD k t0 = g at c0 c1 c2 HB HG
        obtain ⟨x0, x1, x2⟩ := g
        simp only [] at c0 c1 c2
        have hnum := numB_one n l x0 x1 x2
        have hba := bl_alloc hb (.cells #[.int .i64 x0, .int .i64 x1, .int .i64 x2] 67)
        have hra := hrr.later (bl_alloc (Below.refl wr.heap.size wr) (.cells #[.int .i64 x0, .int .i64 x1, .int .i64 x2] 67))
        by_cases hn : numB n l (x0, x1, x2) = true
        · rw [hn] at hnum
          replace hnum := hnum.symm
          simp only [Bool.and_eq_true] at hnum
          obtain ⟨⟨b0, b1⟩, b2⟩ := hnum
          have b1' := b1
          have b2' := b2
          simp only [oneB, Bool.and_eq_true, decide_eq_true_eq] at b1' b2'
          obtain ⟨f, rfl⟩ : ∃ f : Nat, x1 = f := ⟨x1.toNat, by omega⟩
          obtain ⟨t, rfl⟩ : ∃ t : Nat, x2 = t := ⟨x2.toNat, by omega⟩
          have hf : f < l.length := by omega
          have ht : t < l.length := by omega
          have HW := fun w1 h => Lib.hid (isWindow_c A l c lim x0 f t w1 hlen hcap ha hf ht h)
          clear b1' b2'
          cases hw : winB l lim (x0, (f : Int), (t : Int)) with
          | true =>
            have HX := Lib.hid (HG.out (w1E_zero.2 ⟨hn, hw⟩))
            rw [hw] at HW
            clear hn hw
            go_wp2_with (first | (go_at_call 69; refine (isOneOf_c _ _ _).mono ?_; rintro e w' ⟨rfl, rfl⟩) | (go_at_call 70; refine (HW _ hra).out.mono ?_; rintro e w2 ⟨rfl, hb2⟩))
            go_roundg gi
            case rel => exact ⟨k + 1, by have := HK.out; show _ = _; omega, by go_num, HX.out, bl_call hba hb2⟩
            case measure => omega
          | false =>
            have e7 := w1E_win (n := n) hn hw
            obtain ⟨e1, e2⟩ := HB.out (by rw [e7]; decide)
            rw [e7] at e1
            have E1 := Lib.hid e1
            have E2 := Lib.hid e2
            rw [hw] at HW
            clear hn hw e7 e1 e2
            go_wp2_with (first | (go_at_call 69; refine (isOneOf_c _ _ _).mono ?_; rintro e w' ⟨rfl, rfl⟩) | (go_at_call 70; refine (HW _ hra).out.mono ?_; rintro e w2 ⟨rfl, hb2⟩))
            go_ret2
            exact ⟨by rw [E1.out, E2.out]; rfl, bl_call hba hb2⟩
        · have hn : numB n l (x0, x1, x2) = false := by simpa using hn
          have e7 := w1E_num (lim := lim) hn
          obtain ⟨e1, e2⟩ := HB.out (by rw [e7]; decide)
          rw [e7] at e1
          have E1 := Lib.hid e1
          have E2 := Lib.hid e2
          rw [hn] at hnum
          have hc : oneB x0 n = false ∨ (oneB x0 n = true ∧ oneB x1 l.length = false) ∨ (oneB x0 n = true ∧ oneB x1 l.length = true ∧ oneB x2 l.length = false) := by
            cases h0 : oneB x0 n with
            | false => exact .inl rfl
            | true =>
              cases h1 : oneB x1 l.length with
              | false => exact .inr (.inl ⟨rfl, rfl⟩)
              | true => rw [h0, h1] at hnum; exact .inr (.inr ⟨rfl, rfl, hnum.symm⟩)
          clear hn hnum e7 e1 e2
          rcases hc with b0 | ⟨b0, b1⟩ | ⟨b0, b1, b2⟩
          all_goals
            go_wp2_with (go_at_call 69; refine (isOneOf_c _ _ _).mono ?_; rintro e w' ⟨rfl, rfl⟩)
            go_ret2
            exact ⟨by rw [E1.out, E2.out]; rfl, hba⟩
end Go.Proofs.Ytlhnbknilcmleaa
