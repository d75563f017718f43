/- Windows that meet, in package heat. -/
import Derived.Test.YtlhnbknilcmleaaFew
namespace Go.Proofs.Ytlhnbknilcmleaa
open Go.RowKit

theorem meet_c (a0 a1 a2 b0 b1 b2 : Int) (w : World) : Calls Try.prog 83 #[.agg #[.int .i64 a0, .int .i64 a1, .int .i64 a2], .agg #[.int .i64 b0, .int .i64 b1, .int .i64 b2]] w
    fun e w' => e = .returned (.bool (meetB (a0, a1, a2) (b0, b1, b2))) ∧ Below w.heap.size w w' := by
  go_enter Try.func83, Try.ntmps83
  go_wp2
  all_goals
    go_ret
    exact ⟨ret_b (by simp [meetB, *] <;> omega), bl_alloc (bl_alloc (Below.refl _ _) _) _⟩
theorem headW_run (g o n c i : Nat) (h : i ≤ n) (hn : n ≤ c) (w : World) : (Instr.slice 48 (.slice (some ⟨g, o, none⟩) n c) none (some (.int .i64 i)) none).run Try.prog w = .ok (.slice (some ⟨g, o, none⟩) i c) w := by
  have q1 : (i : Int) ≤ (c : Int) := by omega
  go_simp
/-- Do two of the first i meet, or the one at i one of the first k? -/
theorem noMeet_range {ws : List T3} {i : Nat} (h : ∀ k, k < i → meetB (ws.getD k t0) (ws.getD i t0) = false) (hp : ∀ i' k, k < i' → i' < i → meetB (ws.getD k t0) (ws.getD i' t0) = false) : ∀ i' k, k < i' → i' < i + 1 → meetB (ws.getD k t0) (ws.getD i' t0) = false := fun i' k hk hi => by
  rcases Nat.lt_or_ge i' i with x | x
  · exact hp i' k hk x
  · obtain rfl : i' = i := by omega
    exact h k hk

set_option maxRecDepth 100000 in
set_option maxHeartbeats 2000000 in
theorem hasMeeting_c (A : Option Addr) (ws : List T3) (c : Nat) (w : World) (hlen : ws.length ≤ 1000) (hcap : ws.length ≤ c) (hr : Rd w A (cellsT ws)) :
    Calls Try.prog 71 #[.slice A ws.length c] w fun e w' => e = .returned (.bool (anyMeet ws)) ∧ Below w.heap.size w w' := by
  go_enter Try.func71, Try.ntmps71
  go_wp2_with (fail)
  go_loopg [9] ws.length (fun gk iv wr => ∃ i : Nat, Hid (i + gk = ws.length) ∧ iv = .int .i64 (i : Int) ∧ Hid (∀ i' k, k < i' → i' < i → meetB (ws.getD k t0) (ws.getD i' t0) = false) ∧ Below w.heap.size w wr)
  case atStart => exact ⟨0, by simp [Hid], rfl, fun i' k _ h => absurd h (by omega), Below.refl _ _⟩
  case round =>
    obtain ⟨i, HI, rfl, HP, hb⟩ := hrel
    rcases gk with _ | gi
    · obtain rfl : i = ws.length := HI.out
      have HE : Hid (anyMeet ws = false) := anyMeet_false.2 HP.out
      go_wp2_with (fail)
      go_ret
      exact ⟨by rw [HE.out]; rfl, hb⟩
    · have hil : i < ws.length := by have := HI.out; omega
      have hil' : (i : Int) < (ws.length : Int) := by omega
      have hrr := hr.later hb
      obtain ⟨b, o, rfl, hbl, c0, c1, c2⟩ := hrr.tri hil
      have hsl := fun w1 => headW_run b o ws.length c i (by omega) hcap w1
      have HNM := Lib.hid (@noMeet_range ws i)
      have HAM : Hid (∀ k, k < i → meetB (ws.getD k t0) (ws.getD i t0) = true → anyMeet ws = true) := fun k hk h => by
        cases ha : anyMeet ws with
        | true => rfl
        | false => rw [anyMeet_false.1 ha i k hk hil] at h; cases h
      generalize ws.getD i t0 = g at *
      obtain ⟨g0, g1, g2⟩ := g
      simp only [] at c0 c1 c2
      have hba := bl_alloc hb (.cells #[.int .i64 g0, .int .i64 g1, .int .i64 g2] 67)
      have hbx : Bx (wr.alloc (.cells #[.int .i64 g0, .int .i64 g1, .int .i64 g2] 67)) wr.heap.size 67 #[.int .i64 g0, .int .i64 g1, .int .i64 g2] := Bx.new _ _ _
      have hra := hrr.later (bl_alloc (Below.refl wr.heap.size wr) (.cells #[.int .i64 g0, .int .i64 g1, .int .i64 g2] 67))
      go_wp2_with (fail)
      obtain ⟨wo, hwo⟩ : ∃ wo, wo = wr.alloc (.cells #[.int .i64 g0, .int .i64 g1, .int .i64 g2] 67) := ⟨_, rfl⟩
      rw [← hwo] at hba hbx hra ⊢
      clear hwo
      obtain ⟨wq, rfl⟩ : ∃ wq, wq = wr := ⟨_, rfl⟩
      go_loopg [18] i (fun gk iv wi => ∃ k : Nat, Hid (k + gk = i) ∧ iv = .int .i64 (k : Int) ∧ Hid (∀ k', k' < k → meetB (ws.getD k' t0) (g0, g1, g2) = false) ∧ Below wo.heap.size wo wi)
      case atStart => exact ⟨0, by simp [Hid], rfl, fun k h => absurd h (by omega), Below.refl _ _⟩
      case round =>
        obtain ⟨k, HK, rfl, HQ, hbi⟩ := hrel
        rcases gk with _ | gj
        · obtain rfl : k = i := HK.out
          go_wp2_with (fail)
          go_roundg gi
          case rel => exact ⟨k + 1, by have := HI.out; show _ = _; omega, by go_num, HNM.out HQ.out HP.out, bl_call hba hbi⟩
          case measure => omega
        · have hki : k < i := by have := HK.out; omega
          have hki' : (k : Int) < (i : Int) := by omega
          obtain ⟨b', o', he, hbl', d0, d1, d2⟩ := (hra.later hbi).tri (k := k) (by omega)
          injection he with he
          injection he with e1 e2
          subst e1 e2
          have HM1 := Lib.hid (HAM.out k hki)
          have HQ2 : Hid (meetB (ws.getD k t0) (g0, g1, g2) = false → ∀ k', k' < k + 1 → meetB (ws.getD k' t0) (g0, g1, g2) = false) := fun h k' hk' => by
            rcases Nat.lt_or_ge k' k with x | x
            · exact HQ.out k' x
            · obtain rfl : k' = k := by omega
              exact h
          generalize ws.getD k t0 = x at d0 d1 d2 HM1 HQ2
          obtain ⟨x0, x1, x2⟩ := x
          simp only [] at d0 d1 d2
          obtain ⟨y0, y1, y2, _, _, _⟩ := (hbx.call hbi).three
          have hbj := bl_alloc hbi (.cells #[.int .i64 x0, .int .i64 x1, .int .i64 x2] 67)
          have HMc := fun w => Lib.hid (meet_c x0 x1 x2 g0 g1 g2 w)
          have hwl : wq.heap.size < wr.heap.size := by have := hbx.lt; have := hbi.size; omega
          generalize meetB (x0, x1, x2) (g0, g1, g2) = v at HM1 HQ2 HMc
          cases v with
          | true =>
            have HE : Hid (anyMeet ws = true) := HM1.out rfl
            go_wp2_with (go_at_call 83; refine (HMc _).out.mono ?_; rintro e w1 ⟨rfl, hb1⟩)
            go_ret
            exact ⟨by rw [HE.out]; rfl, bl_call hba (bl_call hbj hb1)⟩
          | false =>
            have HE := Lib.hid (HQ2.out rfl)
            go_wp2_with (go_at_call 83; refine (HMc _).out.mono ?_; rintro e w1 ⟨rfl, hb1⟩)
            go_roundg gj
            case rel => exact ⟨k + 1, by have := HK.out; show _ = _; omega, by go_num, HE.out, bl_call hbj hb1⟩
            case measure => omega
end Go.Proofs.Ytlhnbknilcmleaa
