/- The walk of the law on the number of alike circuits. -/
import Derived.Test.YteoajadcdjaalaaRcnt
import Derived.Test.YteoajadcdjaalaaCntE
import Derived.Test.YteoajadcdjaalaaFirstsW
import Derived.Test.YteoajadcdjaalaaComm
namespace Go.Proofs.Yteoajadcdjaalaa
open Go.RowKit

theorem comm_ok {x y : G} (hx : gateB 4 x = true) (hy : gateB 4 y = true) : commE x y = 0 ∧ commR x y = commG x y := by
  have h : commE x y = 0 := by simp [commE, gatesE, hx, hy]
  exact ⟨h, by rw [commR, h]; rfl⟩

set_option maxRecDepth 100000 in
set_option maxHeartbeats 8000000 in
theorem circuitCounts_walk (n : Int) (A : Option Addr) (l : List G) (c : Nat) (w : World) (_hn : (Lit.int .i64 n).wf = true) (hr : Rd w A (cellsG l)) :
    Calls Try.prog 6 #[.int .i64 n, .slice A l.length c] w fun e w' => e = .returned (.bool true) ∧ Below w.heap.size w w' := by
  have HL := fun w => Lib.hid (long_c A l.length c w)
  have HK := fun w => Lib.hid (known_c w)
  by_cases hlong : 50 < l.length
  · rw [decide_eq_true hlong] at HL
    go_enter Try.func6, Try.ntmps6
    go_wp2_with (fail)
    refine (HL _).out.mono ?_
    rintro e w1 ⟨rfl, rfl⟩
    go_wp2_with (fail)
    refine (HK _).out.mono ?_
    rintro e w2 ⟨rfl, hb2⟩
    go_wp2_with (fail)
    go_ret
    exact ⟨rfl, hb2⟩
  · rw [decide_eq_false hlong] at HL
    have hlen : l.length ≤ 1000 := by omega
    clear hlong
    have H1 := Lib.hid (Count_c n A l c w hlen hr)
    have H2 := fun w1 hr1 => Lib.hid (rCount_c n A l c w1 hlen hr1)
    have HO : Hid (validE n l = 0 → Gs l ∧ decide (cntL l = 1) = adjTo l (l.length - 1) ∧ (if validE n l = 0 then (cntL l : Int) else 0) = (cntL l : Int)) := fun h => ⟨validE_gs h, cnt_one l, if_pos h⟩
    generalize (if validE n l = 0 then (cntL l : Int) else 0) = kv at *
    generalize validE n l = ev at *
    go_enter Try.func6, Try.ntmps6
    go_wp2_with (fail)
    refine (HL _).out.mono ?_
    rintro e w1 ⟨rfl, rfl⟩
    go_wp2_with (fail)
    refine H1.out.mono ?_
    rintro e w1 ⟨rfl, hb1⟩
    go_wp2_with (fail)
    refine (H2 _ (hr.later hb1)).out.mono ?_
    rintro e w2 ⟨rfl, hb2⟩
    have hb12 := bl_call hb1 hb2
    have hr2 := hr.later hb12
    clear H1 H2 hb1 hb2
    by_cases hv : ev = 0
    · obtain ⟨hg, hone, rfl⟩ := HO.out hv
      subst hv
      have HONE := Lib.hid hone
      clear HO hone
      go_wp2_with (fail)
      go_loopg [9, 10] (l.length - 1) (fun gk ov iv wr => ∃ i k : Nat, Hid (k + 1 = i) ∧ Hid (k + gk = l.length - 1) ∧ iv = .int .i64 (i : Int) ∧ ov = .bool (adjTo l k) ∧ Below w2.heap.size w2 wr)
      case atStart => exact ⟨1, 0, rfl, by simp [Hid], rfl, rfl, Below.refl _ _⟩
      case round =>
        obtain ⟨i, k, HI, HKK, rfl, rfl, hb⟩ := hrel
        rcases gk with _ | gi
        · have hni : ¬ (i : Int) < (l.length : Int) := by have h1 := HI.out; have h2 := HKK.out; omega
          have hk1 : k = l.length - 1 := by have h := HKK.out; omega
          have HE : Hid (((cntL l : Int) == 1) = adjTo l k) := by
            show _ = _
            rw [hk1, ← HONE.out, Bool.eq_iff_iff, beq_iff_eq, decide_eq_true_eq]; omega
          clear hk1 HONE
          generalize adjTo l k = v at *
          obtain ⟨cb, hcb⟩ : ∃ cb, cb = ((cntL l : Int) == 1) := ⟨_, rfl⟩
          have HE2 : cb = v := by rw [hcb]; exact HE.out
          subst HE2
          clear HE
          generalize (cntL l : Int) = q at *
          have hcb' := hcb.symm
          clear hcb
          cases cb
          all_goals
            go_wp2_with (fail)
            refine (HK _).out.mono ?_
            rintro e w6 ⟨rfl, hb6⟩
            go_wp2_with (fail)
            go_ret
            exact ⟨rfl, bl_call (bl_call hb12 hb) hb6⟩
        · have hil : i < l.length := by have h1 := HI.out; have h2 := HKK.out; omega
          have hil' : (i : Int) < (l.length : Int) := by omega
          have hkl : k < l.length := by have h1 := HI.out; omega
          have hkl' : (k : Int) < (l.length : Int) := by omega
          have hik : (i : Int) - 1 = (k : Int) := by have h1 := HI.out; omega
          have hwk : IntKind.i64.wrap (k : Int) = (k : Int) := by simp [IntKind.wrap, IntKind.bits, IntKind.signed]; omega
          have HS : Hid (adjTo l (k + 1) = (adjTo l k && tiedG (l.getD k g0) (l.getD i g0))) := by show _ = _; rw [← HI.out]; rfl
          have hgi := Lib.hid (hg.get hil)
          have hgk := Lib.hid (hg.get hkl)
          have hrr := hr2.later hb
          have hR := Lib.hid (fun w1 (hb1 : Below wr.heap.size wr w1) => (hrr.later hb1).gates2 hkl hil)
          obtain ⟨b, o, rfl, hbl, ⟨c0, c1, c2, c3⟩, d0, d1, d2, d3⟩ := hrr.gates2 hkl hil
          have hG : Hid (∀ w1, Below wr.heap.size wr w1 →
              (w1.cell? ⟨b, o + k * 4, none⟩ = some (.int .i64 (l.getD k g0).1) ∧ w1.cell? ⟨b, o + k * 4 + 1, none⟩ = some (.int .i64 (l.getD k g0).2.1) ∧ w1.cell? ⟨b, o + k * 4 + 2, none⟩ = some (.int .i64 (l.getD k g0).2.2.1) ∧ w1.cell? ⟨b, o + k * 4 + 3, none⟩ = some (.int .i64 (l.getD k g0).2.2.2)) ∧
              (w1.cell? ⟨b, o + i * 4, none⟩ = some (.int .i64 (l.getD i g0).1) ∧ w1.cell? ⟨b, o + i * 4 + 1, none⟩ = some (.int .i64 (l.getD i g0).2.1) ∧ w1.cell? ⟨b, o + i * 4 + 2, none⟩ = some (.int .i64 (l.getD i g0).2.2.1) ∧ w1.cell? ⟨b, o + i * 4 + 3, none⟩ = some (.int .i64 (l.getD i g0).2.2.2))) := fun w1 hb1 => by
            obtain ⟨b', o', he, _, h1, h2⟩ := hR.out w1 hb1
            injection he with he
            injection he with e1 e2
            subst e1 e2
            exact ⟨h1, h2⟩
          clear hR
          have HTE : Hid (tiedG (l.getD k g0) (l.getD i g0) = (typeG (l.getD k g0) (l.getD i g0) || !commG (l.getD k g0) (l.getD i g0))) := rfl
          generalize l.getD k g0 = x at *
          generalize l.getD i g0 = y at *
          obtain ⟨xk, xa, xb, xt⟩ := x
          obtain ⟨yk, ya, yb, yt⟩ := y
          simp only [] at c0 c1 c2 c3 d0 d1 d2 d3 hG
          obtain ⟨hce, hcr⟩ := comm_ok hgk.out hgi.out
          have HC := fun w => Lib.hid (Commute_c xk xa xb xt yk ya yb yt w)
          rw [hce, hcr] at HC
          have HTx := fun w => Lib.hid (rType_c xk xa xb xt w)
          have HTy := fun w => Lib.hid (rType_c yk ya yb yt w)
          have HTT : Hid (typeG (xk, xa, xb, xt) (yk, ya, yb, yt) = typeB xk xa xb yk ya yb) := rfl
          clear hce hcr hgi hgk
          generalize commG (xk, xa, xb, xt) (yk, ya, yb, yt) = cb at HC HTE
          have hCC : Below wr.heap.size wr wr.drew := (Below.refl _ _).drew
          generalize adjTo l k = lv at *
          have HS2 : Hid (adjTo l (k + 1) = (lv && (typeB xk xa xb yk ya yb || !cb))) := by show _ = _; rw [HS.out, HTE.out, HTT.out]
          clear HS HTE HTT
          rcases type_cases xk xa xb yk ya yb with ⟨ht, hn⟩ | ⟨ht, rfl, hn⟩ | ⟨ht, rfl, rfl, hn⟩ | ⟨ht, rfl, rfl, rfl⟩
          all_goals
            rw [ht] at HS2
            cases cb
            all_goals
              cases lv
              all_goals
                have HS' := HS2.out
                go_wp2_with (fail)
                refine wp_region_low (hCC) (by kernel_rfl) (by kernel_rfl) ?_
                repeat (first
                  | go_big_quiet_skip
                  | (go_big_quiet_want
                     apply Exists.intro
                     refine And.intro (fun W hW => ?_) ?_
                     · (obtain ⟨⟨p0, p1, p2, p3⟩, q0, q1, q2, q3⟩ := hG.out W hW)
                       go_simp
                       first
                         | exact rfl
                         | ((refine (HC W).out.mono ?_; rintro e w1 ⟨rfl, hb1⟩; exact ⟨rfl, bl_call hW hb1⟩))
                     try go_simp
                     go_big_quiet_on))
                refine wpQuiet_nil ?_
                intro w9 hb9
                have hCC9 : Below wr.heap.size wr w9.drew := hb9.drew
                go_wp2_with (fail)
                refine wp_region_low (hCC9) (by kernel_rfl) (by kernel_rfl) ?_
                repeat (first
                  | go_big_quiet_skip
                  | (go_big_quiet_want
                     apply Exists.intro
                     refine And.intro (fun W hW => ?_) ?_
                     · (obtain ⟨⟨p0, p1, p2, p3⟩, q0, q1, q2, q3⟩ := hG.out W hW)
                       go_simp
                       first
                         | exact rfl
                         | ((first | (refine (HTx W).out.mono ?_; rintro e w1 ⟨rfl, hb1⟩; exact ⟨rfl, bl_call hW hb1⟩) | (refine (HTy W).out.mono ?_; rintro e w1 ⟨rfl, hb1⟩; exact ⟨rfl, bl_call hW hb1⟩)))
                     try go_simp
                     go_big_quiet_on))
                refine wpQuiet_nil ?_
                intro w10 hb10
                go_wp2_with (fail)
                go_roundg gi
                case rel => exact ⟨i + 1, k + 1, by have h := HI.out; show _ = _; omega, by have h := HKK.out; show _ = _; omega, by go_num, by rw [HS']; first | rfl | simp [*], bl_call hb hb10⟩
                case measure => omega
    · clear HO
      go_wp2_with (fail)
      refine (HK _).out.mono ?_
      rintro e w5 ⟨rfl, hb5⟩
      go_wp2_with (fail)
      go_ret
      exact ⟨rfl, bl_call hb12 hb5⟩
end Go.Proofs.Yteoajadcdjaalaa
