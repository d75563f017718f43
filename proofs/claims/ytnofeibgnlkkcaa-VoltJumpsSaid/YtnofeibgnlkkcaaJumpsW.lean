/- VoltJumps, walked. -/
import Derived.Test.YtnofeibgnlkkcaaKnw
import Derived.Test.YtnofeibgnlkkcaaRmp
import Derived.Test.YtnofeibgnlkkcaaRstp
import Derived.Test.YtnofeibgnlkkcaaSam
namespace Go.Proofs.Ytnofeibgnlkkcaa
open Go.RowKit

theorem ramp_rows (a b : List Int) (s : Int) : ∀ k, k < (rampG a b s).length → ((rampG a b s).getD k []).length ≤ 9223372036854775806 := fun k hk => by
  unfold rampG at hk ⊢
  split
  · rename_i h
    rw [if_pos h, rampTo_len] at hk
    rw [rampTo_get (by omega), rampAt_len]
    have := (okSlew_iff.1 h).1.hn
    omega
  · rename_i h
    rw [if_neg h] at hk; simp at hk
set_option maxRecDepth 100000 in
set_option maxHeartbeats 4000000 in
theorem voltJumps_walk (A : Option Addr) (a : List Int) (c : Nat) (B : Option Addr) (b : List Int) (d : Nat) (s : Int) (w : World)  (ha : Rd w A (ints a)) (hb : Rd w B (ints b)) (_hs : (Lit.int .i64 s).wf = true) :
    Calls Try.prog 8 #[.slice A a.length c, .slice B b.length d, .int .i64 s] w fun e w' => e = .returned (.bool true) ∧ Below w.heap.size w w' := by
  have HK := fun w => Lib.hid (known_c w)
  have HLa := fun w => Lib.hid (many_c A a.length c w)
  have HLb := fun w => Lib.hid (many_c B b.length d w)
  by_cases hxa : 40 < a.length
  · rw [decide_eq_true hxa] at HLa
    go_enter Try.func8, Try.ntmps8
    have hb0 := Below.refl w.heap.size w
    go_wp2_with (fail)
    refine (HLa _).out.mono ?_
    rintro e w1 ⟨rfl, rfl⟩
    go_wp2_with (fail)
    refine (HK _).out.mono ?_
    rintro e wk ⟨rfl, hbk⟩
    go_wp2_with (fail)
    go_ret
    exact ⟨rfl, bl_call hb0 hbk⟩
  rw [decide_eq_false hxa] at HLa
  have hla : a.length ≤ 1000 := by omega
  by_cases hxb : 40 < b.length
  · rw [decide_eq_true hxb] at HLb
    go_enter Try.func8, Try.ntmps8
    have hb0 := Below.refl w.heap.size w
    go_wp2_with (fail)
    refine (HLa _).out.mono ?_
    rintro e w1 ⟨rfl, rfl⟩
    go_wp2_with (fail)
    refine (HLb _).out.mono ?_
    rintro e w1 ⟨rfl, rfl⟩
    go_wp2_with (fail)
    refine (HK _).out.mono ?_
    rintro e wk ⟨rfl, hbk⟩
    go_wp2_with (fail)
    go_ret
    exact ⟨rfl, bl_call hb0 hbk⟩
  rw [decide_eq_false hxb] at HLb
  have hlb : b.length ≤ 1000 := by omega
  have H1 := fun w h h' => Lib.hid (Jump_c A B a b c d w hla hlb h h')
  have H2 := fun w h h' => Lib.hid (rJump_c A B a b c d w hla hlb h h')
  have H3 := fun w h h' => Lib.hid (Steps_c A B a b c d s w hla hlb h h')
  have H4 := fun w h h' => Lib.hid (rSteps_c A B a b c d s w hla hlb h h')
  have H5 := fun w h h' => Lib.hid (Ramp_c A B a b c d s w hla hlb h h')
  have H6 := fun w h h' => Lib.hid (rRamp_c A B a b c d s w hla hlb h h')
  have H7 := fun A' B' c1 c2 R1 R2 w h h' => Lib.hid (sameTables_c A' B' R1 R2 (rampG a b s) (rampG a b s) c1 c2 w (by have := (ramp_len a b s).2; omega) (ramp_rows a b s) h h')
  rw [decide_eq_true rfl] at H7
  unfold OutTab at H5 H6
  rcases hW : okSlew a b s with _ | _
  · rw [hW, errB_f] at H3 H4 H5 H6
    generalize jumpG a b = x at *
    generalize stepsG a b s = n at *
    generalize rampG a b s = M at *
    generalize errB (okTwo a b) = E at *
    clear hla hlb hxa hxb hW
    go_enter Try.func8, Try.ntmps8
    have hb0 := Below.refl w.heap.size w
    go_wp2_with (fail)
    refine (HLa _).out.mono ?_
    rintro e w1 ⟨rfl, rfl⟩
    go_wp2_with (fail)
    refine (HLb _).out.mono ?_
    rintro e w1 ⟨rfl, rfl⟩
    go_wp2_with (fail)
    refine (H1 _ (ha.later hb0) (hb.later hb0)).out.mono ?_
    rintro e w1 ⟨rfl, hbx⟩
    replace hb0 := bl_call hb0 hbx
    clear hbx
    go_wp2_with (fail)
    refine (H2 _ (ha.later hb0) (hb.later hb0)).out.mono ?_
    rintro e w1 ⟨rfl, hbx⟩
    replace hb0 := bl_call hb0 hbx
    clear hbx
    go_wp2_with (fail)
    refine (H3 _ (ha.later hb0) (hb.later hb0)).out.mono ?_
    rintro e w1 ⟨rfl, hbx⟩
    replace hb0 := bl_call hb0 hbx
    clear hbx
    go_wp2_with (fail)
    refine (H4 _ (ha.later hb0) (hb.later hb0)).out.mono ?_
    rintro e w1 ⟨rfl, hbx⟩
    replace hb0 := bl_call hb0 hbx
    clear hbx
    go_wp2_with (fail)
    refine (H5 _ (ha.later hb0) (hb.later hb0)).out.mono ?_
    rintro e w1 ⟨A5, c5, R5, rfl, _, hr5, _, hbx⟩
    replace hb0 := bl_call hb0 hbx
    clear hbx
    go_wp2_with (fail)
    refine (H6 _ (ha.later hb0) (hb.later hb0)).out.mono ?_
    rintro e w1 ⟨A6, c6, R6, rfl, _, hr6, _, hbx⟩
    replace hb0 := bl_call hb0 hbx
    replace hr5 := hr5.later hbx
    clear hbx
    go_wp2_with (fail)
    refine (H7 _ _ _ _ _ _ _ hr5 hr6).out.mono ?_
    rintro e w1 ⟨rfl, hbx⟩
    replace hb0 := bl_call hb0 hbx
    replace hr5 := hr5.later hbx
    clear hbx hr6
    go_wp2_with (fail)
    refine (HK _).out.mono ?_
    rintro e wk ⟨rfl, hbk⟩
    go_wp2_with (fail)
    go_ret
    exact ⟨rfl, bl_call hb0 hbk⟩
  · obtain ⟨h2, h1, h6⟩ := okSlew_iff.1 hW
    have hT : okTwo a b = true := okTwo_iff.2 h2
    have hn := h2.hn
    have hj6 := h2.jump
    have hj0 := jumpL_pos a b
    obtain ⟨hst, hN6, _, _⟩ := steps_all hj0 hj6 h1 h6
    have hG : rampG a b s = rampTo a b s (stepsN (jumpL a b) s) := by unfold rampG; rw [if_pos hW]
    have hJ : jumpG a b = jumpL a b := by unfold jumpG; rw [if_pos hT]
    have hS : stepsG a b s = ((stepsN (jumpL a b) s : Nat) : Int) := by unfold stepsG; rw [if_pos hW]
    have HJ : ∀ t, t < stepsN (jumpL a b) s → ∃ x, 1 ≤ x ∧ x ≤ s ∧ ∀ A' B' c1 c2 w, Rd w A' (ints (rampAt a b s t)) → Rd w B' (ints (rampAt a b s (t + 1))) → Hid (Calls Try.prog 37 #[.slice A' a.length c1, .slice B' a.length c2] w fun e w' => e = .returned (.tuple #[.int .i64 x, .int .i64 0]) ∧ Below w.heap.size w w') := fun t ht => by
      obtain ⟨k1, k2⟩ := ramp_step hj6 h1 h6 ht
      have hTt : okTwo (rampAt a b s t) (rampAt a b s (t + 1)) = true := by
        refine okTwo_iff.2 ⟨?_, ?_, by rw [rampAt_len]; exact hn⟩
        · rw [rampAt_len]; exact ramp_ok (by omega) h2.ha h2.hb t
        · rw [rampAt_len]; exact ramp_ok (by omega) h2.ha h2.hb (t + 1)
      refine ⟨jumpL (rampAt a b s t) (rampAt a b s (t + 1)), k1, k2, fun A' B' c1 c2 w h h' => ?_⟩
      have := Jump_c A' B' (rampAt a b s t) (rampAt a b s (t + 1)) c1 c2 w (by rw [rampAt_len]; omega) (by rw [rampAt_len]; omega) h h'
      rw [hTt, errB_t, rampAt_len, rampAt_len, show jumpG (rampAt a b s t) (rampAt a b s (t + 1)) = jumpL (rampAt a b s t) (rampAt a b s (t + 1)) by unfold jumpG; rw [if_pos hTt]] at this
      exact this
    rw [hJ, hT, errB_t] at H1 H2
    rw [hS, hW, errB_t] at H3 H4
    rw [hG] at H5 H6 H7
    rw [hW, errB_t] at H5 H6
    generalize stepsN (jumpL a b) s = N at *
    have HML : Hid ((rampTo a b s N).length = N + 1) := rampTo_len a b s N
    have HMG : Hid (∀ k, k ≤ N → (rampTo a b s N).getD k [] = rampAt a b s k) := fun k hk => rampTo_get hk
    have HAL := Lib.hid (rampAt_len a b s)
    replace HJ := Lib.hid HJ
    generalize rampTo a b s N = M at *
    generalize jumpL a b = j at *
    have q2 : wrap64 (j + s) = j + s := IntWalk.wrap64_in _ ⟨by omega, by omega⟩
    have q4 : wrap64 (j + s - 1) = j + s - 1 := IntWalk.wrap64_in _ ⟨by omega, by omega⟩
    have q3 : IntKind.i64.wrap ((j + s - 1).tdiv s) = (N : Int) := by
      rw [Int.tdiv_eq_ediv_of_nonneg (by omega), ← hst, IntWalk.i64_left]
      exact IntWalk.wrap64_in _ ⟨by omega, by omega⟩
    have q5 : (j + s - 1).tdiv s = (N : Int) := by rw [Int.tdiv_eq_ediv_of_nonneg (by omega), ← hst]
    have q6 : ¬ s = 0 := by omega
    have q7 : ¬ s < 1 := by omega
    have hst' := Lib.hid hst
    clear hla hlb hxa hxb hW h2 hT hG hJ hS hn hj6 hj0 hst
    go_enter Try.func8, Try.ntmps8
    have hb0 := Below.refl w.heap.size w
    go_wp2_with (fail)
    refine (HLa _).out.mono ?_
    rintro e w1 ⟨rfl, rfl⟩
    go_wp2_with (fail)
    refine (HLb _).out.mono ?_
    rintro e w1 ⟨rfl, rfl⟩
    go_wp2_with (fail)
    refine (H1 _ (ha.later hb0) (hb.later hb0)).out.mono ?_
    rintro e w1 ⟨rfl, hbx⟩
    replace hb0 := bl_call hb0 hbx
    clear hbx
    go_wp2_with (fail)
    refine (H2 _ (ha.later hb0) (hb.later hb0)).out.mono ?_
    rintro e w1 ⟨rfl, hbx⟩
    replace hb0 := bl_call hb0 hbx
    clear hbx
    go_wp2_with (fail)
    refine (H3 _ (ha.later hb0) (hb.later hb0)).out.mono ?_
    rintro e w1 ⟨rfl, hbx⟩
    replace hb0 := bl_call hb0 hbx
    clear hbx
    go_wp2_with (fail)
    refine (H4 _ (ha.later hb0) (hb.later hb0)).out.mono ?_
    rintro e w1 ⟨rfl, hbx⟩
    replace hb0 := bl_call hb0 hbx
    clear hbx
    go_wp2_with (fail)
    refine (H5 _ (ha.later hb0) (hb.later hb0)).out.mono ?_
    rintro e w1 ⟨A5, c5, R5, rfl, _, hr5, _, hbx⟩
    replace hb0 := bl_call hb0 hbx
    clear hbx
    go_wp2_with (fail)
    refine (H6 _ (ha.later hb0) (hb.later hb0)).out.mono ?_
    rintro e w1 ⟨A6, c6, R6, rfl, _, hr6, _, hbx⟩
    replace hb0 := bl_call hb0 hbx
    replace hr5 := hr5.later hbx
    clear hbx
    go_wp2_with (fail)
    refine (H7 _ _ _ _ _ _ _ hr5 hr6).out.mono ?_
    rintro e w1 ⟨rfl, hbx⟩
    replace hb0 := bl_call hb0 hbx
    replace hr5 := hr5.later hbx
    clear hbx hr6
    have HM1 : Hid (M.length = N + 1) := HML
    obtain ⟨b5, o5, rfl, _, F5⟩ := hr5.all_ (by rw [HM1.out]; omega)
    replace F5 := Lib.hid F5
    clear H1 H2 H3 H4 H5 H6 H7
    rw [HM1.out]
    go_wp2_with (fail)
    obtain ⟨w0, hw0⟩ : ∃ w0, w0 = w1 := ⟨_, rfl⟩
    rw [← hw0] at hb0 hr5 F5 ⊢
    clear hw0
    generalize hL : N + 1 = L
    replace hL := Lib.hid hL
    go_loopg [19] N (fun gk iv wr => ∃ t u : Nat, Hid (t + gk = N) ∧ Hid (u = t + 1) ∧ iv = .int .i64 (u : Int) ∧ Below w0.heap.size w0 wr)
    case atStart => exact ⟨0, 1, by simp [Hid], rfl, rfl, Below.refl _ _⟩
    case round =>
      obtain ⟨t, u, HK', HU, rfl, hbr⟩ := hrel
      have hbb := bl_call hb0 hbr
      rcases gk with _ | gi
      · obtain rfl : u = L := by have := HK'.out; have := HU.out; have := hL.out; omega
        go_wp2_with (fail)
        refine (HK _).out.mono ?_
        rintro e wk ⟨rfl, hbk⟩
        go_wp2_with (fail)
        go_ret
        exact ⟨rfl, bl_call hbb hbk⟩
      · have htN : t < N := by have := HK'.out; omega
        have htN' : (t : Int) < (L : Int) := by have := hL.out; omega
        have huN : u < L := by have := hL.out; have := HU.out; omega
        have huN' : (u : Int) < (L : Int) := by omega
        have hL7 : L ≤ 7 := by have := hL.out; omega
        obtain ⟨x, x1, x2, HJt⟩ := HJ.out t htN
        have y1 := hr5.row t (by rw [HM1.out]; omega)
        have y2 := hr5.row u (by rw [HM1.out, HU.out]; omega)
        rw [show M.getD u [] = rampAt a b s (t + 1) by rw [HU.out]; exact HMG.out (t + 1) (by omega)] at y2
        rw [HMG.out t (by omega)] at y1
        have G1 : Hid (∀ w1, Below w0.heap.size w0 w1 → w1.cell? ⟨b5, o5 + t, none⟩ = some (.slice (R5 t).1 a.length (R5 t).2)) := fun w1 hw => by
          have := F5.out w1 hw t (by rw [HM1.out]; omega)
          rwa [HMG.out t (by omega), HAL.out] at this
        have G2 : Hid (∀ w1, Below w0.heap.size w0 w1 → w1.cell? ⟨b5, o5 + u, none⟩ = some (.slice (R5 u).1 a.length (R5 u).2)) := fun w1 hw => by
          have := F5.out w1 hw u (by rw [HM1.out, HU.out]; omega)
          rwa [HU.out, HMG.out (t + 1) (by omega), HAL.out, ← HU.out] at this
        have HJW := fun w1 (hw : Below w0.heap.size w0 w1) => HJt (R5 t).1 (R5 u).1 (R5 t).2 (R5 u).2 w1 (y1.later hw) (y2.later hw)
        have hdr : Below w0.heap.size w0 wr.drew := hbr.drew
        have Q9 : Hid (IntKind.i64.wrap ((u : Int) - 1) = (t : Int)) := by show _ = _; rw [IntWalk.i64_left, show (u : Int) - 1 = (t : Int) by have := HU.out; omega]; exact IntWalk.wrap64_in _ ⟨by omega, by omega⟩
        have x3 : ¬ s < x := by omega
        have x4 : ¬ x < 1 := by omega
        clear y1 y2 HJt q2 q3 q4 q5
        go_wp2_with (fail)
        refine wp_region_low (hdr) (by kernel_rfl) (by kernel_rfl) ?_
        repeat (first
          | go_big_quiet_skip
          | (go_big_quiet_want
             apply Exists.intro
             refine And.intro (fun W hW => ?_) ?_
             · (have z1 := G1.out W hW; have z2 := G2.out W hW; have q9 := Q9.out)
               go_simp
               first
                 | exact rfl
                 | (refine (HJW W hW).out.mono ?_; rintro e w1 ⟨rfl, hb1⟩; exact ⟨rfl, hW.trans (hb1.mono hW.size)⟩)
             try go_simp
             go_big_quiet_on))
        refine wpQuiet_nil ?_
        intro w9 hb9
        go_wp2_with (fail)
        go_roundg gi
        case rel => exact ⟨t + 1, u + 1, by have := HK'.out; show _ = _; omega, by have := HU.out; show _ = _; omega, by go_num, hb9⟩
        case measure => omega
end Go.Proofs.Ytnofeibgnlkkcaa
