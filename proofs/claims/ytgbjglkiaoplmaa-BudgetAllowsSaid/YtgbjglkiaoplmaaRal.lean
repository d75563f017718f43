/- Parts of a limit: the document's Allow. -/
import Derived.Test.YtgbjglkiaoplmaaAlw
import Derived.Test.YtgbjglkiaoplmaaRtt
namespace Go.Proofs.Ytgbjglkiaoplmaa
open Go.RowKit

theorem closeB_one (x : It) (n d : Int) : closeB [x] n d = decide (shareP x * d ≤ n * 2520) := by unfold closeB; rw [parts_one]
set_option maxRecDepth 100000 in
set_option maxHeartbeats 4000000 in
theorem rAllow_c (A : Option Addr) (l : List It) (cap : Nat) (n d : Int) (B : Option Addr) (ps : List Int) (cap2 : Nat) (w : World) (hlen : l.length ≤ 1000) (hcap : l.length ≤ cap) (hlen2 : ps.length ≤ 1000) (hr : Rd w A (cellsI l)) (hs : Rd w B (ints ps)) :
    Calls Try.prog 52 #[.slice A l.length cap, .agg #[.int .i64 n, .int .i64 d], .slice B ps.length cap2] w fun e w' => e = .returned (.int .i64 (alwE l n d ps)) ∧ Below w.heap.size w w' := by
  have hb0 := bl_alloc (Below.refl w.heap.size w) (.cells #[.int .i64 n, .int .i64 d] 30)
  have x0 : Bx (w.alloc (.cells #[.int .i64 n, .int .i64 d] 30)) w.heap.size 30 #[.int .i64 n, .int .i64 d] := Bx.new w _ _
  have HV := Lib.hid (rValidate_c A l cap _ hlen (hr.later hb0))
  have HLm := fun w => Lib.hid (risLimit_c n d w)
  by_cases hv : valE l = 0
  rotate_left
  · have hc : clsE l n d = valE l := by unfold clsE; rw [if_neg hv]
    have hE : alwE l n d ps = valE l := by rw [alw_1 (by rw [hc]; exact hv), hc]
    have hv' : (valE l == 0) = false := by rw [beq_eq_false_iff_ne]; exact hv
    rw [hE]
    clear hE hc
    generalize valE l = z at *
    go_enter Try.func52, Try.ntmps52
    go_wp2_with (fail)
    refine HV.out.mono ?_
    rintro e w1 ⟨rfl, hb1⟩
    go_wp2_with (fail)
    go_ret
    exact ⟨rfl, bl_call hb0 hb1⟩
  · by_cases hL : limB n d = true
    rotate_left
    · have hLf : limB n d = false := by simpa using hL
      have hc : clsE l n d = 1 := by unfold clsE; rw [if_pos hv, if_neg hL]
      have hE : alwE l n d ps = 1 := by rw [alw_1 (by rw [hc]; decide), hc]
      rw [hv] at HV
      rw [hLf] at HLm
      rw [hE]
      clear hE hc hL hLf hv
      go_enter Try.func52, Try.ntmps52
      go_wp2_with (fail)
      refine HV.out.mono ?_
      rintro e w1 ⟨rfl, hb1⟩
      obtain ⟨y0, y1, _, _⟩ := (x0.call hb1).two
      have hb01 := bl_call hb0 hb1
      go_wp2_with (fail)
      refine (HLm _).out.mono ?_
      rintro e w2 ⟨rfl, hb2⟩
      go_wp2_with (fail)
      go_ret
      exact ⟨rfl, bl_call hb01 hb2⟩
    · have hc : clsE l n d = 0 := by unfold clsE; rw [if_pos hv, if_pos hL]
      by_cases hl : ps.length = l.length
      rotate_left
      · have hE := alw_2 hc hl
        have hl' : ((ps.length : Int) != (l.length : Int)) = true := by rw [bne_iff_ne]; omega
        rw [hv] at HV
        rw [hL] at HLm
        rw [hE]
        clear hE hc hv hL
        replace hl := Lib.hid hl
        go_enter Try.func52, Try.ntmps52
        go_wp2_with (fail)
        refine HV.out.mono ?_
        rintro e w1 ⟨rfl, hb1⟩
        obtain ⟨y0, y1, _, _⟩ := (x0.call hb1).two
        have hb01 := bl_call hb0 hb1
        go_wp2_with (fail)
        refine (HLm _).out.mono ?_
        rintro e w2 ⟨rfl, hb2⟩
        go_wp2_with (fail)
        go_ret
        exact ⟨rfl, bl_call hb01 hb2⟩
      · have hl' : ((ps.length : Int) != (l.length : Int)) = false := by rw [hl]; simp
        have h6 := (valE_ok hv).1
        have HOK := Lib.hid (val_ok hv)
        obtain ⟨d0, d1, n0, n1⟩ := limB_iff.1 hL
        have H3 := Lib.hid (fun k hk h => alw_3 hc hl (k := k) hk h)
        have H4 := Lib.hid (alw_4 (n := n) hc hl)
        have H5 := Lib.hid (fun h3 h4 k hk h => alw_5 (n := n) hc hl h3 h4 (k := k) hk h)
        have H6 := Lib.hid (alw_6 (n := n) hc hl)
        have HSI := Lib.hid (fun k (h : ∀ j, j < k → prB ps j = true) => sum_in h)
        have HSS : Hid (∀ k, sumTo ps (k + 1) = sumTo ps k + ps.getD k 0) := fun k => rfl
        have HPr : Hid (∀ k, prB ps k = inB (ps.getD k 0) 0 1000000) := fun k => rfl
        have HL := Lib.hid hl
        rw [hv] at HV
        rw [hL] at HLm
        clear hc hL hv hl
        generalize alwE l n d ps = E at *
        go_enter Try.func52, Try.ntmps52
        go_wp2_with (fail)
        refine HV.out.mono ?_
        rintro e w1 ⟨rfl, hb1⟩
        have x1' := x0.call hb1
        have hb01' := bl_call hb0 hb1
        obtain ⟨y0, y1, _, _⟩ := x1'.two
        go_wp2_with (fail)
        refine (HLm _).out.mono ?_
        rintro e w2 ⟨rfl, hb2⟩
        have x1 := x1'.call hb2
        have hb01 := bl_call hb01' hb2
        clear HV HLm x0 x1' y0 y1 hb0 hb1 hb2 hb01'
        go_wp2_with (fail)
        go_loopg [8, 9] ps.length (fun gk sv iv wr => ∃ k : Nat, Hid (k + gk = ps.length) ∧ iv = .int .i64 (k : Int) ∧ sv = .int .i64 (sumTo ps k) ∧ Hid (∀ j, j < k → prB ps j = true) ∧ Bx wr w.heap.size 30 #[.int .i64 n, .int .i64 d] ∧ Below w.heap.size w wr)
        case atStart => exact ⟨0, by simp [Hid], rfl, rfl, fun j h => absurd h (by omega), x1, hb01⟩
        case round =>
          clear x1 hb01
          obtain ⟨k, HK, rfl, rfl, HP, hx, hb⟩ := hrel
          rcases gk with _ | gi
          · obtain rfl : k = ps.length := HK.out
            obtain ⟨z0, z1, _, _⟩ := hx.two
            by_cases hn : n < sumTo ps ps.length
            · have hE := Lib.hid (H4.out HP.out hn)
              generalize sumTo ps ps.length = S at *
              go_wp2_with (fail)
              go_ret
              exact ⟨ret_i hE.out, hb⟩
            · have H5n := Lib.hid (H5.out HP.out (by omega))
              have H6n := Lib.hid (H6.out HP.out (by omega))
              have HPo := HP
              clear H5 H6 H4 H3 HP
              generalize sumTo ps ps.length = S at *
              go_wp2_with (fail)
              go_loopg [10] l.length (fun gk iv wr => ∃ k : Nat, Hid (k + gk = l.length) ∧ iv = .int .i64 (k : Int) ∧ Hid (∀ j, j < k → shB l d ps j = true) ∧ Bx wr w.heap.size 30 #[.int .i64 n, .int .i64 d] ∧ Below w.heap.size w wr)
              case atStart => exact ⟨0, by simp [Hid], rfl, fun j h => absurd h (by omega), hx, hb⟩
              case round =>
                clear hx hb z0 z1
                obtain ⟨k, HK, rfl, HP, hx, hb⟩ := hrel
                rcases gk with _ | gi
                · obtain rfl : k = l.length := HK.out
                  have hE := Lib.hid (H6n.out HP.out)
                  go_wp2_with (fail)
                  go_ret
                  exact ⟨ret_i hE.out, hb⟩
                · have hkl : k < l.length := by have := HK.out; omega
                  have hkl' : (k : Int) < (l.length : Int) := by omega
                  have hkp : k < ps.length := by have := HL.out; omega
                  have hkp' : (k : Int) < (ps.length : Int) := by omega
                  have q1 : (k : Int) + 1 ≤ (l.length : Int) := by omega
                  have q2 : ¬ cap = k := by omega
                  have q3 : k + 1 ≤ cap := by omega
                  have q4 : (k : Int) + 1 ≤ (cap : Int) := by omega
                  have q5 : (k : Int) ≤ (k : Int) + 1 := by omega
                  have q6 : (0 : Int) ≤ (k : Int) + 1 := by omega
                  have q8 : wrap64 ((k : Int) + 1) = (k : Int) + 1 := IntWalk.wrap64_in _ ⟨by omega, by omega⟩
                  have q9 : IntKind.i64.wrap ((k : Int) + 1) = (k : Int) + 1 := IntWalk.i64_in _ ⟨by omega, by omega⟩
                  have hrk := hr.later hb
                  obtain ⟨b1, o1, hA, _⟩ := hrk.itm hkl
                  obtain ⟨b2, o2, hB, hbl2, e0⟩ := (hs.later hb).one hkp
                  have hpk := prB_in (HPo.out k hkp)
                  have HE : Hid (shB l d ps k = false → E = 8) := fun h => H5n.out k hkl h
                  have HG : Hid (shB l d ps k = true → ∀ j, j < k + 1 → shB l d ps j = true) := fun h j hj => by
                    rcases Nat.lt_or_ge j k with x | x
                    · exact HP.out j x
                    · obtain rfl : j = k := by omega
                      exact h
                  have hsg : ∀ W, Below wr.heap.size wr W → Rd W (some ⟨b1, o1 + k * 3, none⟩) (cellsI [l.getD k it0]) := fun W hW => by
                    have := hrk.later hW
                    rw [hA] at this
                    exact this.single hkl
                  have HCl := Lib.hid (fun W (hW : Below wr.heap.size wr W) => show Calls Try.prog 73 #[.slice (some ⟨b1, o1 + k * 3, none⟩) 1 (cap - k), .agg #[.int .i64 (ps.getD k 0), .int .i64 d]] W fun e w' => e = .returned (.bool (shB l d ps k)) ∧ Below W.heap.size W w' from by
                    have := rcloses_c (some ⟨b1, o1 + k * 3, none⟩) [l.getD k it0] (cap - k) 8 (ps.getD k 0) d W (fun j hj => by
                      have : j = 0 := by simp at hj; exact hj
                      subst this; exact HOK.out k hkl) (by simp) (by decide) (limB_iff.2 ⟨by omega, d1, hpk.1, hpk.2⟩) (hsg W hW)
                    rw [closeB_one] at this
                    exact this)
                  clear hpk hsg hrk
                  generalize shB l d ps k = z at *
                  generalize ps.getD k 0 = p at *
                  subst hA hB
                  have hdr : Below wr.heap.size wr wr.drew := (Below.refl _ _).drew
                  have HC := Lib.hid (fun W (hW : Below wr.heap.size wr W) => And.intro ((hW.cell (p := ⟨b2, o2 + k, none⟩) hbl2).trans e0) (hx.call hW).two)
                  clear e0
                  go_wp2_with (fail)
                  refine wp_region_low (hdr) (by kernel_rfl) (by kernel_rfl) ?_
                  repeat (first
                    | go_big_quiet_skip
                    | (go_big_quiet_want
                       apply Exists.intro
                       refine And.intro (fun W hW => ?_) ?_
                       · (obtain ⟨g0, g1, g2, _, _⟩ := HC.out W hW)
                         go_simp
                         first
                           | exact rfl
                           | (with_reducible refine (HCl.out W hW).mono ?_; rintro e w1 ⟨rfl, hb1⟩; exact ⟨rfl, bl_call hW hb1⟩)
                       try go_simp
                       go_big_quiet_on))
                  refine wpQuiet_nil ?_
                  intro w9 hb9
                  have hx9 := hx.call hb9
                  have hbb9 := bl_call hb hb9
                  cases z with
                  | false =>
                    have hE := Lib.hid (HE.out rfl)
                    go_wp2_with (fail)
                    go_ret
                    exact ⟨ret_i hE.out, hbb9⟩
                  | true =>
                    have hG := Lib.hid (HG.out rfl)
                    go_wp2_with (fail)
                    go_roundg gi
                    case rel => exact ⟨k + 1, by have := HK.out; show _ = _; omega, by go_num, hG.out, hx9, hbb9⟩
                    case measure => omega
          · have hkp : k < ps.length := by have := HK.out; omega
            have hkp' : (k : Int) < (ps.length : Int) := by omega
            obtain ⟨b2, o2, rfl, _, e0⟩ := (hs.later hb).one hkp
            have HI := fun w => Lib.hid (within_c (ps.getD k 0) 0 1000000 w)
            have HSk := Lib.hid (HSS.out k)
            have HE := Lib.hid (H3.out k hkp)
            have hin := HSI.out k HP.out
            have HG : Hid (prB ps k = true → ∀ j, j < k + 1 → prB ps j = true) := fun h j hj => by
              rcases Nat.lt_or_ge j k with x | x
              · exact HP.out j x
              · obtain rfl : j = k := by omega
                exact h
            have HPI := Lib.hid (@prB_in ps k)
            rw [← HPr.out k] at HI
            have hl6 := HL.out
            cases hz : prB ps k with
            | false =>
              have hE := Lib.hid (HE.out hz)
              rw [hz] at HI
              clear hin HPI HG HE hz hl6
              generalize ps.getD k 0 = p at *
              go_wp2_with (fail)
              refine (HI _).out.mono ?_
              rintro e w2 ⟨rfl, rfl⟩
              go_wp2_with (fail)
              go_ret
              exact ⟨ret_i hE.out, hb⟩
            | true =>
              have hG := Lib.hid (HG.out hz)
              have hp := HPI.out hz
              have hw : wrap64 (sumTo ps k + ps.getD k 0) = sumTo ps k + ps.getD k 0 := IntWalk.wrap64_in _ ⟨by omega, by omega⟩
              rw [hz] at HI
              clear hin HPI HG HE hz hp hl6
              generalize sumTo ps k = S at *
              generalize ps.getD k 0 = p at *
              go_wp2_with (fail)
              refine (HI _).out.mono ?_
              rintro e w2 ⟨rfl, rfl⟩
              go_wp2_with (fail)
              go_roundg gi
              case rel => exact ⟨k + 1, by have := HK.out; show _ = _; omega, by go_num, by rw [HSk.out]; first | rfl | rw [hw], hG.out, hx, hb⟩
              case measure => omega
end Go.Proofs.Ytgbjglkiaoplmaa
