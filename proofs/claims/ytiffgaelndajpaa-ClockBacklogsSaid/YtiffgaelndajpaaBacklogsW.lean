/- ClockBacklogs, walked. -/
import Derived.Test.YtiffgaelndajpaaKnownK
import Derived.Test.YtiffgaelndajpaaRblg
namespace Go.Proofs.Ytiffgaelndajpaa
open Go.RowKit

theorem blgL_step {p : List Int} {d : Int} {s : Nat} (h : s + 1 < (blgL p d).length) : 0 ≤ (blgL p d).getD (s + 1) 0 ∧ (blgL p d).getD (s + 1) 0 ≤ 3600 ∧ 0 ≤ (blgL p d).getD s 0 ∧ (blgL p d).getD s 0 ≤ 3600 ∧ (blgL p d).getD s 0 - d ≤ (blgL p d).getD (s + 1) 0 ∧ 0 ≤ d ∧ d ≤ 60 := by
  unfold blgL at h ⊢
  split at h
  · rename_i he
    rw [if_pos he]
    obtain ⟨h60, hd, ha⟩ := blgE_zero.1 he
    obtain ⟨d0, d1⟩ := inB_z.1 hd
    rw [blTo_len] at h
    rw [blTo_get p d h, blTo_get p d (show s < p.length by omega)]
    have hc : ∀ k, k < p.length → 0 ≤ p.getD k 0 ∧ p.getD k 0 ≤ 60 := fun k hk => amts_get ha hk
    have r1 := blT_range (come := p) d0 hc (s + 1) (by omega)
    have r2 := blT_range (come := p) d0 hc (s + 1 + 1) (by omega)
    have h1 := hc (s + 1) (by omega)
    have e : blT p d (s + 1 + 1) = max 0 (blT p d (s + 1) + p.getD (s + 1) 0 - d) := rfl
    omega
  · simp at h
set_option maxRecDepth 100000 in
set_option maxHeartbeats 4000000 in
theorem clockBacklogs_walk (A : Option Addr) (p : List Int) (c : Nat) (d : Int) (w : World) (hr : Rd w A (ints p)) (_hd : (Lit.int .i64 d).wf = true) :
    Calls Try.prog 10 #[.slice A p.length c, .int .i64 d] w fun e w' => e = .returned (.bool true) ∧ Below w.heap.size w w' := by
  have HK := fun w => Lib.hid (known_c w)
  by_cases h1000 : 1000 < p.length
  · have h1000' : (1000 : Int) < (p.length : Int) := by omega
    go_enter Try.func10, Try.ntmps10
    go_wp2_with (fail)
    refine (HK _).out.mono ?_
    rintro e w2 ⟨rfl, hb2⟩
    go_wp2_with (fail)
    go_ret
    exact ⟨rfl, hb2⟩
  · have h1000' : ¬ (1000 : Int) < (p.length : Int) := by omega
    have H1 := fun w h => Lib.hid (Backlog_c A p c d w (by omega) h)
    have H2 := fun w h => Lib.hid (rBacklog_c A p c d w (by omega) h)
    have HS := Lib.hid (fun s => @blgL_step p d s)
    have hL : (blgL p d).length ≤ 1000 := by
      unfold blgL
      split
      · rw [blTo_len]; omega
      · simp
    generalize blgL p d = L at *
    generalize blgE p d = E at *
    clear h1000
    go_enter Try.func10, Try.ntmps10
    go_wp2_with (fail)
    refine (H1 _ hr).out.mono ?_
    rintro e w1 ⟨A1, c1, rfl, hr1, hb1⟩
    go_wp2_with (fail)
    refine (H2 _ (hr.later hb1)).out.mono ?_
    rintro e w2 ⟨A2, c2, rfl, hr2, hb2⟩
    have hb12 := bl_call hb1 hb2
    have hra := hr1.later hb2
    have HSI := Lib.hid (sameInts_c A1 A2 L L c1 c2 w2 (by omega) hra hr2)
    rw [decide_eq_true rfl] at HSI
    go_wp2_with (fail)
    refine HSI.out.mono ?_
    rintro e w3 ⟨rfl, hb3⟩
    have hb13 := bl_call hb12 hb3
    have hrc := hra.later hb3
    go_wp2_with (fail)
    go_loopg [9] (L.length - 1) (fun gk tv wr => ∃ s : Nat, Hid (gk = L.length - (s + 1)) ∧ tv = .int .i64 ((s : Int) + 1) ∧ Hid (s ≤ 1000) ∧ Below w3.heap.size w3 wr)
    case atStart => exact ⟨0, rfl, rfl, by simp [Hid], Below.refl _ _⟩
    case round =>
      obtain ⟨s, HG, rfl, HSB, hb⟩ := hrel
      have hsb := HSB.out
      rcases gk with _ | gi
      · have hs : ¬ (s : Int) + 1 < (L.length : Int) := by have := HG.out; omega
        have hs2 : (s : Int) ≤ 1000 := by omega
        go_wp2_with (fail)
        refine (HK _).out.mono ?_
        rintro e wk ⟨rfl, hbk⟩
        go_wp2_with (fail)
        go_ret
        exact ⟨rfl, bl_call (bl_call hb13 hb) hbk⟩
      · have hs : (s : Int) + 1 < (L.length : Int) := by have := HG.out; omega
        have hsl : s + 1 < L.length := by omega
        have hs2 : (s : Int) ≤ 1000 := by omega
        have hs3 : (s : Int) < (L.length : Int) := by omega
        obtain ⟨b, o, rfl, _, hcc⟩ := (hrc.later hb).at_ (k := s) (by rw [ints_length]; omega)
        have y0 := hcc s _ (ints_get (by omega))
        have y1 := hcc (s + 1) _ (ints_get hsl)
        obtain ⟨x0, x1, x2, x3, x4, x5, x6⟩ := HS.out s hsl
        clear hcc
        generalize L.getD (s + 1) 0 = X at *
        generalize L.getD s 0 = Y at *
        have g1 : decide (X < 0) = false := decide_eq_false (by omega)
        have g2 : decide (10000 < X) = false := decide_eq_false (by omega)
        have g3 : decide (10000 < Y) = false := decide_eq_false (by omega)
        have g4 : decide (X < Y - d) = false := decide_eq_false (by omega)
        have e1 : ((s : Int) + 1).toNat = s + 1 := by omega
        go_wp2_with (fail)
        go_quiet (fail)
        go_wp2_with (fail)
        go_roundg gi
        case rel => exact ⟨s + 1, by have := HG.out; show _ = _; omega, by go_num, by show _ ≤ _; omega, below_drewN hb _⟩
        case measure => omega
end Go.Proofs.Ytiffgaelndajpaa
