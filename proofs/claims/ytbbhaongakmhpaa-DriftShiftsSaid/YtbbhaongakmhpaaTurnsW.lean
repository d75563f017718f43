/- DriftTurns, walked. -/
import Derived.Test.YtbbhaongakmhpaaKnownD
import Derived.Test.YtbbhaongakmhpaaRmk
namespace Go.Proofs.Ytbbhaongakmhpaa
open Go.RowKit

theorem same_agr {l M : List T3} {r : Int} (hl : validE l = 0) (hM : validE M = 0) (h : 0 ≤ r → agreeB M r = agreeB l r) : ratE M r = ratE l r ∧ agrG M r = agrG l r := by
  have e : ratE M r = ratE l r := by unfold ratE; rw [if_pos hl, if_pos hM]
  refine ⟨e, ?_⟩
  by_cases hz : ratE l r = 0
  · rw [agrG_yes hz, agrG_yes (e.trans hz), h (ratE_ok.1 hz).2.1]
  · rw [agrG_no hz, agrG_no (by rw [e]; exact hz)]
set_option maxRecDepth 100000 in
set_option maxHeartbeats 4000000 in
theorem driftTurns_walk (A : Option Addr) (l : List T3) (c : Nat) (r : Int) (w : World) (_hcap : l.length ≤ c) (hr : Rd w A (cellsT l)) (_hi : (Lit.int .i64 r).wf = true) :
    Calls Try.prog 13 #[.slice A l.length c, .int .i64 r] w fun e w' => e = .returned (.bool true) ∧ Below w.heap.size w w' := by
  have HL := fun w => Lib.hid (long_c A l.length c w)
  have HK := fun w => Lib.hid (known_c w)
  by_cases hlong : 100 < l.length
  · rw [decide_eq_true hlong] at HL
    go_enter Try.func13, Try.ntmps13
    go_wp2_with (fail)
    refine (HL _).out.mono ?_
    rintro e w1 ⟨rfl, rfl⟩
    go_wp2_with (fail)
    refine (HK _).out.mono ?_
    rintro e w2 ⟨rfl, hb2⟩
    go_wp2_with (fail)
    go_ret
    exact ⟨rfl, hb2⟩
  · rw [decide_eq_false hlong] at HL
    have hlen : l.length ≤ 1000 := by omega
    clear hlong
    have hbe : Below w.heap.size w (w.alloc (.cells #[] 55)) := bl_alloc (Below.refl _ _) _
    obtain ⟨A0, c0, wq, EE, hoq, hgq⟩ := grow_rows (w.alloc (.cells #[] 55)) w.heap.size _ [] l A c (own_empty (Nat.le_refl _) (Bx.new w _ _)) (hr.later hbe) (by simp; omega) hbe.size
    have hb00 : Below w.heap.size w wq := hbe.trans (grown_below (own_empty (Nat.le_refl _) (Bx.new w _ _)) hgq hbe.size)
    rw [List.nil_append] at hoq
    simp only [List.length_nil, Nat.zero_add] at EE
    have E0 := Lib.hid EE
    have hro := (own_rd hoq).1
    clear EE hgq hbe
    have H1 := fun B c' w h => Lib.hid (Turn_c B l c' w hlen h)
    have H2 := fun w h => Lib.hid (rTurn_c A l c w hlen h)
    have hMl : (trnL l).length ≤ 1000 := by
      unfold trnL
      split
      · rw [turnL_length]; exact hlen
      · simp
    have HS := fun B B' c' c'' w h h' => Lib.hid (same_c B B' (trnL l) (trnL l) c' c'' w (by omega) h h')
    have HSL := fun B B' c' c'' w h h' => Lib.hid (same_c B B' l l c' c'' w (by omega) h h')
    rw [decide_eq_true rfl] at HS HSL
    have H3 := fun B c' w h => Lib.hid (Agree_c B (trnL l) c' r w hMl h)
    have H4 := fun w h => Lib.hid (Agree_c A l c r w hlen h)
    by_cases hv : validE l = 0
    · have hl := validE_ok.1 hv
      have hM : trnL l = turnL l := by rw [trnL, if_pos hv]
      obtain ⟨e1, e2⟩ := same_agr (r := r) hv (validE_ok.2 (turn_ok hl)) (fun h => turn_agree hl h)
      rw [← hM] at e1 e2
      rw [e1, e2] at H3
      rw [hv] at H1 H2
      clear e1 e2 hM hl hv
      generalize trnL l = M at *
      generalize agrG l r = G at *
      generalize ratE l r = R at *
      go_enter Try.func13, Try.ntmps13
      go_wp2_with (fail)
      refine (HL _).out.mono ?_
      rintro e w1 ⟨rfl, rfl⟩
      go_wp2_with (at_builtin; refine wpList_append_eq rfl _ _ 22 rfl _ _ _ wq rfl rfl E0.out ?_)
      refine (H1 _ _ _ hro).out.mono ?_
      rintro e w1 ⟨A1, c1, rfl, ho1, hb1⟩
      have hb01 := bl_call hb00 hb1
      go_wp2_with (fail)
      refine (H2 _ (hr.later hb01)).out.mono ?_
      rintro e w2 ⟨A2, c2, rfl, ho2, hb2⟩
      have hb02 := bl_call hb01 hb2
      have hra := (own_rd ho1).1
      have hrb := (own_rd ho2).1
      go_wp2_with (fail)
      refine (HS _ _ _ _ _ (hra.later hb2) hrb).out.mono ?_
      rintro e w3 ⟨rfl, hb3⟩
      have hb03 := bl_call hb02 hb3
      go_wp2_with (fail)
      refine (H4 _ (hr.later hb03)).out.mono ?_
      rintro e w4 ⟨rfl, hb4⟩
      have hb04 := bl_call hb03 hb4
      go_wp2_with (fail)
      refine (H3 _ _ _ (((hra.later hb2).later hb3).later hb4)).out.mono ?_
      rintro e w5 ⟨rfl, hb5⟩
      have hq5 : Below w1.heap.size w1 w5 := bl_call (bl_call (bl_call hb2 hb3) hb4) hb5
      have ho5 := own_call ho1 hq5
      have hbq5 : Below wq.heap.size wq w5 := bl_call hb1 hq5
      clear hq5
      go_wp2_with (fail)
      go_loopg [15] M.length (fun gk pv wr => ∃ (k : Nat) (Q : List T3), Hid (k + gk = M.length) ∧ pv = .int .i64 (k : Int) ∧ Hid (Q.length = M.length) ∧ wr.ownsRow wq.heap.size 55 3 (.slice A1 M.length c1) M.length (cellsT Q) ∧ Below wq.heap.size wq wr)
      case atStart => exact ⟨0, M, by simp [Hid], rfl, rfl, ho5, hbq5⟩
      case round =>
        obtain ⟨k, Q, HK5, rfl, HQ, hoR, hbR⟩ := hrel
        clear ho5
        rcases gk with _ | gi
        · obtain rfl : k = M.length := HK5.out
          have hbR0 := bl_call hb00 hbR
          have HSX := HSL A0 A c0 c wr (hro.later hbR) (hr.later hbR0)
          go_wp2_with (fail)
          refine HSX.out.mono ?_
          rintro e wy ⟨rfl, hby⟩
          have hbRy := bl_call hbR0 hby
          go_wp2_with (fail)
          refine (HK _).out.mono ?_
          rintro e wk ⟨rfl, hbk⟩
          go_wp2_with (fail)
          go_ret
          exact ⟨rfl, bl_call hbRy hbk⟩
        · have hkM : k < M.length := by have := HK5.out; omega
          have hkM' : (k : Int) < (M.length : Int) := by omega
          obtain ⟨g, rfl, hbg, hgl, ⟨d0, d1, d2⟩, f0, f1, f2⟩ := own_at3 hoR HQ.out hkM
          have HP := Lib.hid (own_set0 (k := k) hoR (-1))
          have hbs := bl_set hbR (g := g) (i := k * 3) hbg (.int .i64 (-1))
          clear hoR d1 d2 f1 f2
          generalize (Q.getD k t0).1 = v0 at d0
          go_wp2_with (fail)
          go_roundg gi
          case rel => exact ⟨k + 1, _, by have := HK5.out; show _ = _; omega, by go_num, by show _ = _; rw [List.length_set]; exact HQ.out, HP.out, hbs⟩
          case measure => omega
    · have hv' : (validE l != 0) = true := by simpa using hv
      generalize trnL l = M at *
      generalize validE l = v at *
      generalize agrG l r = G at *
      generalize ratE l r = R at *
      generalize agrG M r = G2 at *
      generalize ratE M r = R2 at *
      go_enter Try.func13, Try.ntmps13
      go_wp2_with (fail)
      refine (HL _).out.mono ?_
      rintro e w1 ⟨rfl, rfl⟩
      go_wp2_with (at_builtin; refine wpList_append_eq rfl _ _ 22 rfl _ _ _ wq rfl rfl E0.out ?_)
      refine (H1 _ _ _ hro).out.mono ?_
      rintro e w1 ⟨A1, c1, rfl, ho1, hb1⟩
      have hb01 := bl_call hb00 hb1
      go_wp2_with (fail)
      refine (H2 _ (hr.later hb01)).out.mono ?_
      rintro e w2 ⟨A2, c2, rfl, ho2, hb2⟩
      have hb02 := bl_call hb01 hb2
      have hra := (own_rd ho1).1
      have hrb := (own_rd ho2).1
      go_wp2_with (fail)
      refine (HS _ _ _ _ _ (hra.later hb2) hrb).out.mono ?_
      rintro e w3 ⟨rfl, hb3⟩
      have hb03 := bl_call hb02 hb3
      go_wp2_with (fail)
      refine (H4 _ (hr.later hb03)).out.mono ?_
      rintro e w4 ⟨rfl, hb4⟩
      have hb04 := bl_call hb03 hb4
      go_wp2_with (fail)
      refine (H3 _ _ _ (((hra.later hb2).later hb3).later hb4)).out.mono ?_
      rintro e w5 ⟨rfl, hb5⟩
      have hq5 : Below w1.heap.size w1 w5 := bl_call (bl_call (bl_call hb2 hb3) hb4) hb5
      have ho5 := own_call ho1 hq5
      have hbq5 : Below wq.heap.size wq w5 := bl_call hb1 hq5
      clear hq5
      go_wp2_with (fail)
      go_loopg [15] M.length (fun gk pv wr => ∃ (k : Nat) (Q : List T3), Hid (k + gk = M.length) ∧ pv = .int .i64 (k : Int) ∧ Hid (Q.length = M.length) ∧ wr.ownsRow wq.heap.size 55 3 (.slice A1 M.length c1) M.length (cellsT Q) ∧ Below wq.heap.size wq wr)
      case atStart => exact ⟨0, M, by simp [Hid], rfl, rfl, ho5, hbq5⟩
      case round =>
        obtain ⟨k, Q, HK5, rfl, HQ, hoR, hbR⟩ := hrel
        clear ho5
        rcases gk with _ | gi
        · obtain rfl : k = M.length := HK5.out
          have hbR0 := bl_call hb00 hbR
          have HSX := HSL A0 A c0 c wr (hro.later hbR) (hr.later hbR0)
          go_wp2_with (fail)
          refine HSX.out.mono ?_
          rintro e wy ⟨rfl, hby⟩
          have hbRy := bl_call hbR0 hby
          go_wp2_with (fail)
          refine (HK _).out.mono ?_
          rintro e wk ⟨rfl, hbk⟩
          go_wp2_with (fail)
          go_ret
          exact ⟨rfl, bl_call hbRy hbk⟩
        · have hkM : k < M.length := by have := HK5.out; omega
          have hkM' : (k : Int) < (M.length : Int) := by omega
          obtain ⟨g, rfl, hbg, hgl, ⟨d0, d1, d2⟩, f0, f1, f2⟩ := own_at3 hoR HQ.out hkM
          have HP := Lib.hid (own_set0 (k := k) hoR (-1))
          have hbs := bl_set hbR (g := g) (i := k * 3) hbg (.int .i64 (-1))
          clear hoR d1 d2 f1 f2
          generalize (Q.getD k t0).1 = v0 at d0
          go_wp2_with (fail)
          go_roundg gi
          case rel => exact ⟨k + 1, _, by have := HK5.out; show _ = _; omega, by go_num, by show _ = _; rw [List.length_set]; exact HQ.out, HP.out, hbs⟩
          case measure => omega
end Go.Proofs.Ytbbhaongakmhpaa
