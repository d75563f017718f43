/- The top law of drifts where some reading is not before. -/
import Derived.Test.YtbbhaongakmhpaaTopDM
namespace Go.Proofs.Ytbbhaongakmhpaa
open Go.RowKit

set_option maxRecDepth 100000 in
set_option maxHeartbeats 16000000 in
theorem topD_at (A : Option Addr) (l : List T3) (c : Nat) (r t : Int) (w : World) (hcap : l.length ≤ c) (hr : Rd w A (cellsT l)) (hlong : ¬ 100 < l.length) (hE : ratE l r = 0) (ha : agreeB l r = true) (ht : timE l r t = 0) (ht2 : ¬ 1000 < t) (q : Nat) (hq : q < l.length) (hq2 : t ≤ tm l q) (hall : ∀ j, j < q → tm l j < t) :
    Calls Try.prog 16 #[.slice A l.length c, .int .i64 r, .int .i64 t] w fun e w' => e = .returned (.bool true) ∧ Below w.heap.size w w' := by
  have HALL := Lib.hid hall
  have HQ := Lib.hid hq2
  clear hall hq2
  have hb0 := bl_alloc (Below.refl w.heap.size w) (.cells #[.int .i64 0, .int .i64 0, .int .i64 1, .int .i64 4, .int .i64 9, .int .i64 10] 55)
  have hr3 := rd_newT w 55 [(0, 0, 1), (4, 9, 10)]
  have HST : Hid (∀ (B : Option Addr) (w : World), Rd w B (cellsT [(0, 0, 1), (4, 9, 10)]) → Calls Try.prog 29 #[.slice B 2 2] w fun e w' => e = .returned (.tuple #[.agg #[.int .i64 2, .int .i64 1], .int .i64 0]) ∧ Below w.heap.size w w') := fun B w h => by
    have := Steepest_c B [(0, 0, 1), (4, 9, 10)] 2 w (by decide) h
    rw [ste_top.1, ste_top.2] at this
    exact this
  have HL := fun w => Lib.hid (long_c A l.length c w)
  rw [decide_eq_false hlong] at HL
  have hlen : l.length ≤ 1000 := by omega
  clear hlong
  have H1 := fun w h => Lib.hid (Agree_c A l c r w hlen h)
  have H5 := fun w h => Lib.hid (Tight_c A l c r w hlen h)
  obtain ⟨ho, h0, h9⟩ := ratE_ok.1 hE
  have hv := validE_ok.2 ho
  have HSL := Lib.hid (top_slow hE)
  have H2 := fun w h => Lib.hid (Slowest_c A l c w hlen h)
  have H3 := fun w h => Lib.hid (Clash_c A l c r w hlen h)
  have H4 := fun w h => Lib.hid (Track_c A l c r w hlen h)
  rw [hv] at H2
  rw [hE] at H1 H3 H4 H5
  have hg : agrG l r = true := by rw [agrG_yes hE, ha]
  have hT : tgtG l r = tightL l r := by rw [tgtG, hg]; rfl
  have hK : trkG l r = trackL l r := by rw [trkG, hg]; rfl
  have hC : clsG l r = none := by rw [clsG, if_pos hE, agreeB_none.1 ha]
  rw [ha] at HSL
  have hTl := tightL_length l r
  have hOT := tight_ok ho h0 ha
  have hrT : ratE (tightL l r) r = 0 := ratE_ok.2 ⟨hOT, h0, h9⟩
  have hKl : (trackL l r).length ≤ 100000 := by rw [trackL_length]; have := (times_pos ho).2; omega
  have z1 : chtE l r (trackL l r) = 0 := by unfold chtE; rw [if_pos hE]; exact keepE_zero.2 (track_keeps ho h0 ha)
  have z2 : chtE (tightL l r) r (trackL l r) = 0 := by unfold chtE; rw [if_pos hrT]; exact keepE_zero.2 (track_tight ho h0 ha)
  have H6 := fun B d w h h' => Lib.hid (CheckTrack_c A B l (trackL l r) c d r w hlen hKl h h')
  have H7 := fun A2 c2 B d w h h' => Lib.hid (CheckTrack_c A2 B (tightL l r) (trackL l r) c2 d r w (by omega) hKl h h')
  have H8 := fun w h => Lib.hid (Bounds_c A l c r t w hlen h)
  rw [z1] at H6
  rw [z2] at H7
  rw [hg] at H1 H4 H5
  rw [hT] at H5
  rw [hK] at H4
  rw [hC] at H3
  simp only [pair4] at H3
  clear hK hC z1 z2 hKl hrT hOT hT
  generalize sloG l = S at *
  obtain ⟨s, is⟩ := S
  simp only [] at H2 HSL
  have hsr : is = true ∧ s ≤ r := by have := HSL.out; simp at this; exact ⟨this.1.symm ▸ rfl, this.2⟩
  obtain ⟨rfl, hsr⟩ := hsr
  clear HSL
  have HTG := Lib.hid (fun k (h : k < l.length) => @tight_get l r k h)
  generalize trackL l r = TR at *
  generalize tightL l r = TL at *
  have hne := ho.ne
  have hne' : ((l.length : Int) == 0) = false := by rw [beq_eq_false_iff_ne]; omega
  have hne2 : ¬ (l.length : Int) = 0 := by omega
  delta OutTB at H5
  rw [hTl] at H5 H7
  have hTne : ((l.length : Int) != (l.length : Int)) = false := by simp
  have HTL := Lib.hid hTl
  clear hTl
  have hB : bndT l r t = .tuple #[.int .i64 (lowB l r t), .int .i64 (highB l r t), .bool true, .int .i64 0] := if_pos ⟨ht, ha⟩
  have hlh := low_high ho h0 ha t
  rw [hB] at H8
  clear hB
  obtain ⟨-, ht0, -⟩ := timE_ok.1 ht
  have ht1 : t ≤ 1000 := by omega
  have H9 := fun w h => Lib.hid (Turn_c A l c w hlen h)
  have H10 := fun w h => Lib.hid (Opposite_c A l c w hlen h)
  have hTn : trnL l = turnL l := by rw [trnL, if_pos hv]
  have hOp : oppG l = oppL l := by rw [oppG, if_pos hv]
  have hTnl := turnL_length l
  have hOpl := oppL_length l
  have e1 : bndT (turnL l) r (1000 - t) = .tuple #[.int .i64 (lowB l r t), .int .i64 (highB l r t), .bool true, .int .i64 0] := by
    have q1 : timE (turnL l) r (1000 - t) = 0 := timE_ok.2 ⟨⟨turn_ok ho, h0, h9⟩, by omega, by omega⟩
    have q2 : agreeB (turnL l) r = true := by rw [turn_agree ho h0, ha]
    rw [← turn_low ho, ← turn_high ho]; exact if_pos ⟨q1, q2⟩
  have e2 : bndT (oppL l) r t = .tuple #[.int .i64 (-highB l r t), .int .i64 (-lowB l r t), .bool true, .int .i64 0] := by
    have q1 : timE (oppL l) r t = 0 := timE_ok.2 ⟨⟨opp_ok ho, h0, h9⟩, by omega, by omega⟩
    have q2 : agreeB (oppL l) r = true := by rw [opp_agree ho h0, ha]
    rw [← opp_low ho, ← opp_high ho]; exact if_pos ⟨q1, q2⟩
  have H11 := fun B d w h => Lib.hid (Bounds_c B (turnL l) d r (1000 - t) w (by omega) h)
  have H12 := fun B d w h => Lib.hid (Bounds_c B (oppL l) d r t w (by omega) h)
  rw [e1] at H11
  rw [e2] at H12
  rw [hTn, hv] at H9
  rw [hOp, hv] at H10
  clear e1 e2 hTn hOp hTnl hOpl
  have HIN : Hid (∀ (a : Nat) (x : Int), a ≤ l.length → (∀ k, k < a → tm l k < t) → (∀ k, a ≤ k → k < l.length → t < tm l k) → l.length < 8 → -1000 ≤ x → x ≤ 1000 → ratE (insK l a (t, x, x)) r = 0 ∧ (agrG (insK l a (t, x, x)) r = true ↔ lowB l r t ≤ x ∧ x ≤ highB l r t)) := fun a x h1 h2 h3 h4 h5 h6 => by
    have hI : InAt l a t x := ⟨ho, h4, h1, h2, h3, ht0, ht1, h5, h6⟩
    have hR := ratE_ok.2 ⟨ins_ok hI, h0, h9⟩
    exact ⟨hR, by rw [agrG_yes hR]; exact ins_agree hI h0 ha⟩
  have HTI : Hid (∀ a, a < l.length → tm l a = t → TL.getD a t0 = (t, lowB l r t, highB l r t)) := fun a h1 h2 => by rw [HTG.out a h1, h2]
  have HINC : Hid (∀ i k, i < k → k < l.length → tm l i < tm l k) := ho.inc
  have hlen8 := ho.len
  obtain ⟨sm1, sm2, sm3, sm4⟩ := bounds_small ho h0 h9 ht0 (by omega)
  obtain ⟨b, o, rfl, hbl, -, -, -⟩ := hr.tri hne
  generalize lowB l r t = lo at *
  generalize highB l r t = hi at *
  generalize turnL l = MT at *
  generalize oppL l = MO at *
  have v1 : IntKind.i64.wrap (-lo) = -lo := IntWalk.i64_in _ ⟨by omega, by omega⟩
  have v2 : IntKind.i64.wrap (-hi) = -hi := IntWalk.i64_in _ ⟨by omega, by omega⟩
  have v3 : IntKind.i64.wrap (1000 - t) = 1000 - t := IntWalk.i64_in _ ⟨by omega, by omega⟩
  have v4 : IntKind.i64.wrap (lo - 1) = lo - 1 := IntWalk.i64_in _ ⟨by omega, by omega⟩
  have v5 : IntKind.i64.wrap lo = lo := IntWalk.i64_in _ ⟨by omega, by omega⟩
  have v6 : IntKind.i64.wrap (hi + 2) = hi + 2 := IntWalk.i64_in _ ⟨by omega, by omega⟩
  have v7 : IntKind.i64.wrap (hi + 2 - 1) = hi + 2 - 1 := IntWalk.i64_in _ ⟨by omega, by omega⟩
  have u1 : wrap64 (-lo) = -lo := IntWalk.wrap64_in _ ⟨by omega, by omega⟩
  have u2 : wrap64 (-hi) = -hi := IntWalk.wrap64_in _ ⟨by omega, by omega⟩
  have u3 : wrap64 (1000 - t) = 1000 - t := IntWalk.wrap64_in _ ⟨by omega, by omega⟩
  have u4 : wrap64 (lo - 1) = lo - 1 := IntWalk.wrap64_in _ ⟨by omega, by omega⟩
  have u5 : wrap64 lo = lo := IntWalk.wrap64_in _ ⟨by omega, by omega⟩
  have u6 : wrap64 (hi + 2) = hi + 2 := IntWalk.wrap64_in _ ⟨by omega, by omega⟩
  have u7 : wrap64 (hi + 2 - 1) = hi + 2 - 1 := IntWalk.wrap64_in _ ⟨by omega, by omega⟩
  clear HTG ha ho hv hE ht h0 h9 hg
  go_enter Try.func16, Try.ntmps16
  go_wp2_with (fail)
  refine (HST.out _ _ hr3).mono ?_
  rintro e w1 ⟨rfl, hb1⟩
  have hb01 := bl_call hb0 hb1
  have hxs : Bx (w1.alloc (.cells #[.int .i64 2, .int .i64 1] 39)) w1.heap.size 39 #[.int .i64 2, .int .i64 1] := Bx.new _ _ _
  obtain ⟨y0, y1, y2, y3⟩ := hxs.two
  have hbP := bl_alloc hb01 (.cells #[.int .i64 2, .int .i64 1] 39)
  go_wp2_with (fail)
  refine (HL _).out.mono ?_
  rintro e wl ⟨rfl, rfl⟩
  clear hxs y0 y1 y2 y3 hb1 hb01 hb0 hr3
  go_wp2_with (fail)
  refine (H1 _ (hr.later hbP)).out.mono ?_
  rintro e w2_0 ⟨rfl, hbx20⟩
  have hq20 := bl_call hbP hbx20
  go_wp2_with (fail)
  refine (H2 _ (hr.later hq20)).out.mono ?_
  rintro e w2_1 ⟨rfl, hbx21⟩
  have hq21 := bl_call hq20 hbx21
  go_wp2_with (fail)
  refine (H3 _ (hr.later hq21)).out.mono ?_
  rintro e w2_2 ⟨rfl, hbx22⟩
  have hq22 := bl_call hq21 hbx22
  go_wp2_with (fail)
  refine (H4 _ (hr.later hq22)).out.mono ?_
  rintro e w2_3 ⟨A1, c1, rfl, ho1, hbx23⟩
  have hq23 := bl_call hq22 hbx23
  go_wp2_with (fail)
  refine (H5 _ (hr.later hq23)).out.mono ?_
  rintro e w2_4 ⟨A2, c2, rfl, ho2, hbx24⟩
  have hq24 := bl_call hq23 hbx24
  have hr1 := (own_rd ho1).1.later hbx24
  have hr2 : Rd w2_4 A2 (cellsT TL) := (own_rd ho2).1
  go_wp2_with (fail)
  refine (H6 _ _ _ (hr.later hq24) hr1).out.mono ?_
  rintro e w3_0 ⟨rfl, hbx30⟩
  have hq30 := bl_call hq24 hbx30
  go_wp2_with (fail)
  refine (H7 _ _ _ _ _ (hr2.later hbx30) (hr1.later hbx30)).out.mono ?_
  rintro e w3_1 ⟨rfl, hbx31⟩
  have hq31 := bl_call hq30 hbx31
  go_wp2_with (fail)
  refine (H8 _ (hr.later hq31)).out.mono ?_
  rintro e w3_2 ⟨rfl, hbx32⟩
  have hq32 := bl_call hq31 hbx32
  go_wp2_with (fail)
  have hb := hq32
  have hrt := ((hr2.later hbx30).later hbx31).later hbx32
  go_loopg [27] q (fun gk iv wr => ∃ k : Nat, Hid (k + gk = q) ∧ iv = .int .i64 (k : Int) ∧ Rd wr A2 (cellsT TL) ∧ Below w.heap.size w wr)
  case atStart => exact ⟨0, by simp [Hid], rfl, hrt, hb⟩
  case round =>
    obtain ⟨k, HK5, rfl, hrt, hb⟩ := hrel
    clear H1 H2 H3 H4 H5 H6 H7 H8
    have hkl : k < l.length := by have := HK5.out; omega
    have hkl' : (k : Int) < (l.length : Int) := by omega
    obtain ⟨b2, o2, he2, -, d0_, -, -⟩ := (hr.later hb).tri hkl
    injection he2 with he2
    injection he2 with e21 e22
    subst e21 e22
    have d0 : wr.cell? ⟨b, o + k * 3, none⟩ = some (.int .i64 (tm l k)) := d0_
    clear d0_
    have HTK := Lib.hid (HTI.out k hkl)
    rcases gk with _ | gi
    · obtain rfl : k = q := HK5.out
      have HGT : Hid (t < tm l k → ∀ j, k ≤ j → j < l.length → t < tm l j) := fun h j h1 h2 => by
        rcases Nat.lt_or_ge k j with h3 | h3
        · have := HINC.out k j h3 h2; omega
        · obtain rfl : j = k := by omega
          exact h
      have HQ2 := HQ.out
      generalize tm l k = T at *
      by_cases h : T = t
      · have hTk := HTK.out h
        subst h
        obtain ⟨b5, o5, rfl, -, t0_, t1_, t2_⟩ := hrt.tri (k := k) (by have := HTL.out; omega)
        rw [hTk] at t0_ t1_ t2_
        clear hTk HTK
        go_wp2_with (fail)
        go_ret
        exact ⟨rfl, hb⟩
      · have hnlt : ¬ T < t := by omega
        have h' : t < T := by omega
        have HGT2 := HGT.out h'
        clear HQ2
        go_wp2_with (fail)
        go_loopg [28] 2 (fun gk iv wr => ((gk = 2 ∧ iv = .int .i64 0) ∨ (gk = 1 ∧ iv = .int .i64 1) ∨ (gk = 0 ∧ iv = .int .i64 2)) ∧ Below w.heap.size w wr)
        case atStart => exact ⟨.inl ⟨rfl, rfl⟩, hb⟩
        case round =>
          obtain ⟨hj, hb2⟩ := hrel
          obtain ⟨i0, i1⟩ := idx2 (.int .i64 lo) (.int .i64 hi) wr
          rcases hj with ⟨rfl, rfl⟩ | ⟨rfl, rfl⟩ | ⟨rfl, rfl⟩
          · skip
            by_cases h8 : l.length = 8
            · have h8' : (l.length : Int) = 8 := by omega
              clear h8
              go_wp2_with (fail)
              go_roundg 1
              case rel => exact ⟨.inr (.inl ⟨rfl, rfl⟩), hb2⟩
              case measure => first | omega | decide
            · have h8' : ((l.length : Int) == 8) = false := by rw [beq_eq_false_iff_ne]; omega
              by_cases hx1 : lo < -999
              · go_wp2_with (fail)
                go_roundg 1
                case rel => exact ⟨.inr (.inl ⟨rfl, rfl⟩), hb2⟩
                case measure => first | omega | decide
              · by_cases hx2 : 999 < lo
                · go_wp2_with (fail)
                  go_roundg 1
                  case rel => exact ⟨.inr (.inl ⟨rfl, rfl⟩), hb2⟩
                  case measure => first | omega | decide
                · obtain ⟨q1, q2⟩ := HIN.out k lo (Nat.le_of_lt hkl) HALL.out HGT2 (by omega) (by omega) (by omega)
                  obtain ⟨q3, q4⟩ := HIN.out k (lo - 1) (Nat.le_of_lt hkl) HALL.out HGT2 (by omega) (by omega) (by omega)
                  have a1 : agrG (insK l k (t, lo, lo)) r = true := q2.2 (by omega)
                  have a2 : agrG (insK l k (t, lo - 1, lo - 1)) r = false := by
                    rcases h : agrG (insK l k (t, lo - 1, lo - 1)) r with _ | _
                    · rfl
                    · have := q4.1 h; omega
                  have hI1 := insK_length (l := l) (a := k) (e := ((t, lo, lo) : T3)) (Nat.le_of_lt hkl)
                  have hI2 := insK_length (l := l) (a := k) (e := ((t, lo - 1, lo - 1) : T3)) (Nat.le_of_lt hkl)
                  have hIe := ins_eq (l := l) (a := k) (e := ((t, lo, lo) : T3)) (Nat.le_of_lt hkl)
                  have hIs := ins_set l k (t, lo, lo) (t, lo - 1, lo - 1) (Nat.le_of_lt hkl)
                  have HA1 := fun B d w h => Lib.hid (Agree_c B (insK l k (t, lo, lo)) d r w (by omega) h)
                  have HA2 := fun B d w h => Lib.hid (Agree_c B (insK l k (t, lo - 1, lo - 1)) d r w (by omega) h)
                  rw [a1, q1, hI1] at HA1
                  rw [a2, q3, hI2] at HA2
                  have HIR := Lib.hid (ins_run wr w.heap.size b o c k l (t, lo, lo) hb2.size (Nat.le_of_lt hkl) hcap hlen (hr.later hb2))
                  have HIR2 := Lib.hid (ins_runG wr ((wr.drew.alloc (.cells #[] 55)).alloc (.cells #[.int .i64 t, .int .i64 lo, .int .i64 lo] 55)) w.heap.size wr.heap.size (wr.heap.size + 1) b o c k l (t, lo, lo) hb2.size (Nat.le_of_lt hkl) hcap hlen (hr.later hb2) (bl_alloc (bl_alloc (Below.refl wr.heap.size wr).drew _) _) ((Bx.new wr.drew _ _).alloc _) (Nat.le_refl _) (Bx.newAt (by rw [World.size_alloc]; rfl)) (by omega))
                  have HIR3 := Lib.hid (ins_runG wr ((wr.drew.alloc (.cells #[.int .i64 t, .int .i64 lo, .int .i64 lo] 55)).alloc (.cells #[] 55)) w.heap.size (wr.heap.size + 1) wr.heap.size b o c k l (t, lo, lo) hb2.size (Nat.le_of_lt hkl) hcap hlen (hr.later hb2) (bl_alloc (bl_alloc (Below.refl wr.heap.size wr).drew _) _) (Bx.newAt (by rw [World.size_alloc]; rfl)) (Nat.le_succ _) ((Bx.new wr.drew _ _).alloc _) (by omega))
                  clear q1 q2 q3 q4 a1 a2
                  go_wp2_with (fail)
                  go_cut [30] from 274 to 288 (fun s wc => ∃ (A' : Option Addr) (c' : Nat), s = .slice A' (l.length + 1) c' ∧ wc.ownsRow w.heap.size 55 3 (.slice A' (l.length + 1) c') (l.length + 1) (cellsT (insK l k (t, lo, lo))) ∧ Below w.heap.size w wc)
                  case first =>
                    obtain ⟨A1, c1, W1, F1, A2', c2', W2, F2, o2, ho2e, A3', c3', W3, F3, ho3, hb3⟩ := HIR.out
                    have HH3 := Lib.hid (bl_call hb2 hb3)
                    have G1 := Lib.hid F1
                    have G2 := Lib.hid F2
                    have G3 := Lib.hid F3
                    have HO3 := Lib.hid ho3
                    clear F1 F2 F3 ho3 hb3
                    obtain ⟨A1p, c1p, W1p, F1p, A2p', c2p', W2p, F2p, o2p, ho2ep, A3p', c3p', W3p, F3p, ho3p, hb3p⟩ := HIR2.out
                    have HH3p := Lib.hid (bl_call hb2 hb3p)
                    have G1p := Lib.hid F1p
                    have G2p := Lib.hid F2p
                    have G3p := Lib.hid F3p
                    have HO3p := Lib.hid ho3p
                    clear F1p F2p F3p ho3p hb3p
                    obtain ⟨A1q, c1q, W1q, F1q, A2q', c2q', W2q, F2q, o2q, ho2eq, A3q', c3q', W3q, F3q, ho3q, hb3q⟩ := HIR3.out
                    have HH3q := Lib.hid (bl_call hb2 hb3q)
                    have G1q := Lib.hid F1q
                    have G2q := Lib.hid F2q
                    have G3q := Lib.hid F3q
                    have HO3q := Lib.hid ho3q
                    clear F1q F2q F3q ho3q hb3q
                    obtain rfl : o2 = o2p := by have h := ho2e.symm.trans ho2ep; injection h with h; injection h
                    obtain rfl : o2 = o2q := by have h := ho2e.symm.trans ho2eq; injection h with h; injection h
                    clear ho2ep ho2eq
                    have qa : k ≤ c := by omega
                    have qb : (k : Int) ≤ (c : Int) := by omega
                    have qc : (k : Int) ≤ (l.length : Int) := by omega
                    have qd : (l.length : Int) ≤ (c : Int) := by omega
                    go_region_law (first
                      | (refine step_append_run2 rfl (.tmp 274) (.tmp 277) 22 rfl (.slice (some ⟨wr.heap.size, 0, none⟩) 0 0) (.slice (some ⟨b, o, none⟩) k c) (.slice A1 k c1) W1 (by simp [Act.eval]) (by simp [Act.eval]) G1.out ?_)
                      | (refine step_append_run2 rfl (.tmp 278) (.tmp 283) 22 rfl (.slice A1 k c1) (.slice (some ⟨W1.heap.size, 0, none⟩) 1 1) (.slice A2' (k + 1) c2') W2 (by simp [Act.eval]) (by simp [Act.eval]) G2.out ?_)
                      | (refine step_append_run2 rfl (.tmp 284) (.tmp 287) 22 rfl (.slice A2' (k + 1) c2') (.slice (some ⟨b, o2, none⟩) (l.length - k) (c - k)) (.slice A3' (l.length + 1) c3') W3 (by simp [Act.eval]) (by simp [Act.eval, ← ho2e]) G3.out ?_)
                      | (refine step_append_run2 rfl (.tmp 274) (.tmp 277) 22 rfl (.slice (some ⟨wr.heap.size, 0, none⟩) 0 0) (.slice (some ⟨b, o, none⟩) k c) (.slice A1p k c1p) W1p (by simp [Act.eval]) (by simp [Act.eval]) G1p.out ?_)
                      | (refine step_append_run2 rfl (.tmp 278) (.tmp 283) 22 rfl (.slice A1p k c1p) (.slice (some ⟨wr.heap.size + 1, 0, none⟩) 1 1) (.slice A2p' (k + 1) c2p') W2p (by simp [Act.eval]) (by simp [Act.eval]) G2p.out ?_)
                      | (refine step_append_run2 rfl (.tmp 284) (.tmp 287) 22 rfl (.slice A2p' (k + 1) c2p') (.slice (some ⟨b, o2, none⟩) (l.length - k) (c - k)) (.slice A3p' (l.length + 1) c3p') W3p (by simp [Act.eval]) (by simp [Act.eval, ← ho2e]) G3p.out ?_)
                      | (refine step_append_run2 rfl (.tmp 274) (.tmp 277) 22 rfl (.slice (some ⟨wr.heap.size + 1, 0, none⟩) 0 0) (.slice (some ⟨b, o, none⟩) k c) (.slice A1q k c1q) W1q (by simp [Act.eval]) (by simp [Act.eval]) G1q.out ?_)
                      | (refine step_append_run2 rfl (.tmp 278) (.tmp 283) 22 rfl (.slice A1q k c1q) (.slice (some ⟨wr.heap.size, 0, none⟩) 1 1) (.slice A2q' (k + 1) c2q') W2q (by simp [Act.eval]) (by simp [Act.eval]) G2q.out ?_)
                      | (refine step_append_run2 rfl (.tmp 284) (.tmp 287) 22 rfl (.slice A2q' (k + 1) c2q') (.slice (some ⟨b, o2, none⟩) (l.length - k) (c - k)) (.slice A3q' (l.length + 1) c3q') W3q (by simp [Act.eval]) (by simp [Act.eval, ← ho2e]) G3q.out ?_))
                    all_goals
                      go_wp2_with (fail)
                      go_meet
                      first
                        | exact ⟨A3', c3', rfl, HO3.out, HH3.out⟩
                        | exact ⟨A3p', c3p', rfl, HO3p.out, HH3p.out⟩
                        | exact ⟨A3q', c3q', rfl, HO3q.out, HH3q.out⟩
                  obtain ⟨A7, c7, rfl, ho7, hb7⟩ := hcut
                  clear HIR HIR2 HIR3
                  go_wp2_with (fail)
                  refine (HA1 _ _ _ (own_rd ho7).1).out.mono ?_
                  rintro e w8 ⟨rfl, hb8⟩
                  have ho8 := own_call ho7 hb8
                  have hb08 := bl_call hb7 hb8
                  have hat8 : k < l.length + 1 := by omega
                  have hat8' : (k : Int) < (l.length : Int) + 1 := by omega
                  obtain ⟨g, rfl, hgb, hgl, ⟨m0, m1, m2⟩, f0, f1, f2⟩ := own_at3 ho8 hI1 hat8
                  have hs1 : (w8.setCell ⟨g, k * 3 + 1, none⟩ (.int .i64 (lo - 1))).ownsRow w.heap.size 55 3 (.slice (some ⟨g, 0, none⟩) (l.length + 1) c7) (l.length + 1) (cellsT ((insK l k (t, lo, lo)).set k (((insK l k (t, lo, lo)).getD k t0).1, lo - 1, ((insK l k (t, lo, lo)).getD k t0).2.2))) := by
                    rw [← cellsT_set1]; exact (ho8.stored _ _).1
                  have hs2 := own_set12 (k := k) ho8 (by omega) (lo - 1) (lo - 1)
                  rw [hIe] at m0 m1 m2 hs1 hs2
                  rw [hIs] at hs2
                  obtain ⟨g', hg', -, -, ⟨n0, n1, n2⟩, h0', h1', h2'⟩ := own_at3 hs1 (by rw [List.length_set]; exact hI1) hat8
                  injection hg' with hg'
                  injection hg' with hg'
                  subst hg'
                  have hgs : ((insK l k (t, lo, lo)).set k (t, lo - 1, lo)).getD k t0 = (t, lo - 1, lo) := by simp [show k < (insK l k (t, lo, lo)).length by omega]
                  rw [hgs] at n0 n1 n2
                  have hbs := bl_set (bl_set hb08 hgb (i := k * 3 + 1) (.int .i64 (lo - 1))) hgb (i := k * 3 + 2) (.int .i64 (lo - 1))
                  have HS2 := Lib.hid (own_rd hs2).1
                  have HBS := Lib.hid hbs
                  clear ho7 ho8 hs1 hs2 hbs hI1 hI2 hIe hIs hgs n0 m0 h0' f0
                  go_wp2_with (fail)
                  refine (HA2 _ _ _ HS2.out).out.mono ?_
                  rintro e w9 ⟨rfl, hb9⟩
                  have hb09 := bl_call HBS.out hb9
                  go_wp2_with (fail)
                  go_roundg 1
                  case rel => exact ⟨.inr (.inl ⟨rfl, rfl⟩), hb09⟩
                  case measure => first | omega | decide
          · skip
            by_cases h8 : l.length = 8
            · have h8' : (l.length : Int) = 8 := by omega
              clear h8
              go_wp2_with (fail)
              go_roundg 0
              case rel => exact ⟨.inr (.inr ⟨rfl, rfl⟩), hb2⟩
              case measure => first | omega | decide
            · have h8' : ((l.length : Int) == 8) = false := by rw [beq_eq_false_iff_ne]; omega
              by_cases hx1 : hi < -999
              · go_wp2_with (fail)
                go_roundg 0
                case rel => exact ⟨.inr (.inr ⟨rfl, rfl⟩), hb2⟩
                case measure => first | omega | decide
              · by_cases hx2 : 999 < hi
                · go_wp2_with (fail)
                  go_roundg 0
                  case rel => exact ⟨.inr (.inr ⟨rfl, rfl⟩), hb2⟩
                  case measure => first | omega | decide
                · obtain ⟨q1, q2⟩ := HIN.out k hi (Nat.le_of_lt hkl) HALL.out HGT2 (by omega) (by omega) (by omega)
                  obtain ⟨q3, q4⟩ := HIN.out k (hi + 2 - 1) (Nat.le_of_lt hkl) HALL.out HGT2 (by omega) (by omega) (by omega)
                  have a1 : agrG (insK l k (t, hi, hi)) r = true := q2.2 (by omega)
                  have a2 : agrG (insK l k (t, hi + 2 - 1, hi + 2 - 1)) r = false := by
                    rcases h : agrG (insK l k (t, hi + 2 - 1, hi + 2 - 1)) r with _ | _
                    · rfl
                    · have := q4.1 h; omega
                  have hI1 := insK_length (l := l) (a := k) (e := ((t, hi, hi) : T3)) (Nat.le_of_lt hkl)
                  have hI2 := insK_length (l := l) (a := k) (e := ((t, hi + 2 - 1, hi + 2 - 1) : T3)) (Nat.le_of_lt hkl)
                  have hIe := ins_eq (l := l) (a := k) (e := ((t, hi, hi) : T3)) (Nat.le_of_lt hkl)
                  have hIs := ins_set l k (t, hi, hi) (t, hi + 2 - 1, hi + 2 - 1) (Nat.le_of_lt hkl)
                  have HA1 := fun B d w h => Lib.hid (Agree_c B (insK l k (t, hi, hi)) d r w (by omega) h)
                  have HA2 := fun B d w h => Lib.hid (Agree_c B (insK l k (t, hi + 2 - 1, hi + 2 - 1)) d r w (by omega) h)
                  rw [a1, q1, hI1] at HA1
                  rw [a2, q3, hI2] at HA2
                  have HIR := Lib.hid (ins_run wr w.heap.size b o c k l (t, hi, hi) hb2.size (Nat.le_of_lt hkl) hcap hlen (hr.later hb2))
                  have HIR2 := Lib.hid (ins_runG wr ((wr.drew.alloc (.cells #[] 55)).alloc (.cells #[.int .i64 t, .int .i64 hi, .int .i64 hi] 55)) w.heap.size wr.heap.size (wr.heap.size + 1) b o c k l (t, hi, hi) hb2.size (Nat.le_of_lt hkl) hcap hlen (hr.later hb2) (bl_alloc (bl_alloc (Below.refl wr.heap.size wr).drew _) _) ((Bx.new wr.drew _ _).alloc _) (Nat.le_refl _) (Bx.newAt (by rw [World.size_alloc]; rfl)) (by omega))
                  have HIR3 := Lib.hid (ins_runG wr ((wr.drew.alloc (.cells #[.int .i64 t, .int .i64 hi, .int .i64 hi] 55)).alloc (.cells #[] 55)) w.heap.size (wr.heap.size + 1) wr.heap.size b o c k l (t, hi, hi) hb2.size (Nat.le_of_lt hkl) hcap hlen (hr.later hb2) (bl_alloc (bl_alloc (Below.refl wr.heap.size wr).drew _) _) (Bx.newAt (by rw [World.size_alloc]; rfl)) (Nat.le_succ _) ((Bx.new wr.drew _ _).alloc _) (by omega))
                  clear q1 q2 q3 q4 a1 a2
                  go_wp2_with (fail)
                  go_cut [30] from 274 to 288 (fun s wc => ∃ (A' : Option Addr) (c' : Nat), s = .slice A' (l.length + 1) c' ∧ wc.ownsRow w.heap.size 55 3 (.slice A' (l.length + 1) c') (l.length + 1) (cellsT (insK l k (t, hi, hi))) ∧ Below w.heap.size w wc)
                  case first =>
                    obtain ⟨A1, c1, W1, F1, A2', c2', W2, F2, o2, ho2e, A3', c3', W3, F3, ho3, hb3⟩ := HIR.out
                    have HH3 := Lib.hid (bl_call hb2 hb3)
                    have G1 := Lib.hid F1
                    have G2 := Lib.hid F2
                    have G3 := Lib.hid F3
                    have HO3 := Lib.hid ho3
                    clear F1 F2 F3 ho3 hb3
                    obtain ⟨A1p, c1p, W1p, F1p, A2p', c2p', W2p, F2p, o2p, ho2ep, A3p', c3p', W3p, F3p, ho3p, hb3p⟩ := HIR2.out
                    have HH3p := Lib.hid (bl_call hb2 hb3p)
                    have G1p := Lib.hid F1p
                    have G2p := Lib.hid F2p
                    have G3p := Lib.hid F3p
                    have HO3p := Lib.hid ho3p
                    clear F1p F2p F3p ho3p hb3p
                    obtain ⟨A1q, c1q, W1q, F1q, A2q', c2q', W2q, F2q, o2q, ho2eq, A3q', c3q', W3q, F3q, ho3q, hb3q⟩ := HIR3.out
                    have HH3q := Lib.hid (bl_call hb2 hb3q)
                    have G1q := Lib.hid F1q
                    have G2q := Lib.hid F2q
                    have G3q := Lib.hid F3q
                    have HO3q := Lib.hid ho3q
                    clear F1q F2q F3q ho3q hb3q
                    obtain rfl : o2 = o2p := by have h := ho2e.symm.trans ho2ep; injection h with h; injection h
                    obtain rfl : o2 = o2q := by have h := ho2e.symm.trans ho2eq; injection h with h; injection h
                    clear ho2ep ho2eq
                    have qa : k ≤ c := by omega
                    have qb : (k : Int) ≤ (c : Int) := by omega
                    have qc : (k : Int) ≤ (l.length : Int) := by omega
                    have qd : (l.length : Int) ≤ (c : Int) := by omega
                    go_region_law (first
                      | (refine step_append_run2 rfl (.tmp 274) (.tmp 277) 22 rfl (.slice (some ⟨wr.heap.size, 0, none⟩) 0 0) (.slice (some ⟨b, o, none⟩) k c) (.slice A1 k c1) W1 (by simp [Act.eval]) (by simp [Act.eval]) G1.out ?_)
                      | (refine step_append_run2 rfl (.tmp 278) (.tmp 283) 22 rfl (.slice A1 k c1) (.slice (some ⟨W1.heap.size, 0, none⟩) 1 1) (.slice A2' (k + 1) c2') W2 (by simp [Act.eval]) (by simp [Act.eval]) G2.out ?_)
                      | (refine step_append_run2 rfl (.tmp 284) (.tmp 287) 22 rfl (.slice A2' (k + 1) c2') (.slice (some ⟨b, o2, none⟩) (l.length - k) (c - k)) (.slice A3' (l.length + 1) c3') W3 (by simp [Act.eval]) (by simp [Act.eval, ← ho2e]) G3.out ?_)
                      | (refine step_append_run2 rfl (.tmp 274) (.tmp 277) 22 rfl (.slice (some ⟨wr.heap.size, 0, none⟩) 0 0) (.slice (some ⟨b, o, none⟩) k c) (.slice A1p k c1p) W1p (by simp [Act.eval]) (by simp [Act.eval]) G1p.out ?_)
                      | (refine step_append_run2 rfl (.tmp 278) (.tmp 283) 22 rfl (.slice A1p k c1p) (.slice (some ⟨wr.heap.size + 1, 0, none⟩) 1 1) (.slice A2p' (k + 1) c2p') W2p (by simp [Act.eval]) (by simp [Act.eval]) G2p.out ?_)
                      | (refine step_append_run2 rfl (.tmp 284) (.tmp 287) 22 rfl (.slice A2p' (k + 1) c2p') (.slice (some ⟨b, o2, none⟩) (l.length - k) (c - k)) (.slice A3p' (l.length + 1) c3p') W3p (by simp [Act.eval]) (by simp [Act.eval, ← ho2e]) G3p.out ?_)
                      | (refine step_append_run2 rfl (.tmp 274) (.tmp 277) 22 rfl (.slice (some ⟨wr.heap.size + 1, 0, none⟩) 0 0) (.slice (some ⟨b, o, none⟩) k c) (.slice A1q k c1q) W1q (by simp [Act.eval]) (by simp [Act.eval]) G1q.out ?_)
                      | (refine step_append_run2 rfl (.tmp 278) (.tmp 283) 22 rfl (.slice A1q k c1q) (.slice (some ⟨wr.heap.size, 0, none⟩) 1 1) (.slice A2q' (k + 1) c2q') W2q (by simp [Act.eval]) (by simp [Act.eval]) G2q.out ?_)
                      | (refine step_append_run2 rfl (.tmp 284) (.tmp 287) 22 rfl (.slice A2q' (k + 1) c2q') (.slice (some ⟨b, o2, none⟩) (l.length - k) (c - k)) (.slice A3q' (l.length + 1) c3q') W3q (by simp [Act.eval]) (by simp [Act.eval, ← ho2e]) G3q.out ?_))
                    all_goals
                      go_wp2_with (fail)
                      go_meet
                      first
                        | exact ⟨A3', c3', rfl, HO3.out, HH3.out⟩
                        | exact ⟨A3p', c3p', rfl, HO3p.out, HH3p.out⟩
                        | exact ⟨A3q', c3q', rfl, HO3q.out, HH3q.out⟩
                  obtain ⟨A7, c7, rfl, ho7, hb7⟩ := hcut
                  clear HIR HIR2 HIR3
                  go_wp2_with (fail)
                  refine (HA1 _ _ _ (own_rd ho7).1).out.mono ?_
                  rintro e w8 ⟨rfl, hb8⟩
                  have ho8 := own_call ho7 hb8
                  have hb08 := bl_call hb7 hb8
                  have hat8 : k < l.length + 1 := by omega
                  have hat8' : (k : Int) < (l.length : Int) + 1 := by omega
                  obtain ⟨g, rfl, hgb, hgl, ⟨m0, m1, m2⟩, f0, f1, f2⟩ := own_at3 ho8 hI1 hat8
                  have hs1 : (w8.setCell ⟨g, k * 3 + 1, none⟩ (.int .i64 (hi + 2 - 1))).ownsRow w.heap.size 55 3 (.slice (some ⟨g, 0, none⟩) (l.length + 1) c7) (l.length + 1) (cellsT ((insK l k (t, hi, hi)).set k (((insK l k (t, hi, hi)).getD k t0).1, hi + 2 - 1, ((insK l k (t, hi, hi)).getD k t0).2.2))) := by
                    rw [← cellsT_set1]; exact (ho8.stored _ _).1
                  have hs2 := own_set12 (k := k) ho8 (by omega) (hi + 2 - 1) (hi + 2 - 1)
                  rw [hIe] at m0 m1 m2 hs1 hs2
                  rw [hIs] at hs2
                  obtain ⟨g', hg', -, -, ⟨n0, n1, n2⟩, h0', h1', h2'⟩ := own_at3 hs1 (by rw [List.length_set]; exact hI1) hat8
                  injection hg' with hg'
                  injection hg' with hg'
                  subst hg'
                  have hgs : ((insK l k (t, hi, hi)).set k (t, hi + 2 - 1, hi)).getD k t0 = (t, hi + 2 - 1, hi) := by simp [show k < (insK l k (t, hi, hi)).length by omega]
                  rw [hgs] at n0 n1 n2
                  have hbs := bl_set (bl_set hb08 hgb (i := k * 3 + 1) (.int .i64 (hi + 2 - 1))) hgb (i := k * 3 + 2) (.int .i64 (hi + 2 - 1))
                  have HS2 := Lib.hid (own_rd hs2).1
                  have HBS := Lib.hid hbs
                  clear ho7 ho8 hs1 hs2 hbs hI1 hI2 hIe hIs hgs n0 m0 h0' f0
                  go_wp2_with (fail)
                  refine (HA2 _ _ _ HS2.out).out.mono ?_
                  rintro e w9 ⟨rfl, hb9⟩
                  have hb09 := bl_call HBS.out hb9
                  go_wp2_with (fail)
                  go_roundg 0
                  case rel => exact ⟨.inr (.inr ⟨rfl, rfl⟩), hb09⟩
                  case measure => first | omega | decide
          · skip
            go_wp2_with (fail)
            refine (H9 _ (hr.later hb2)).out.mono ?_
            rintro e w20 ⟨A5, c5, rfl, ho5, hbx20⟩
            have hb20 := bl_call hb2 hbx20
            have hr5 := (own_rd ho5).1
            go_wp2_with (fail)
            refine (H11 _ _ _ hr5).out.mono ?_
            rintro e w21 ⟨rfl, hbx21⟩
            have hb21 := bl_call hb20 hbx21
            go_wp2_with (fail)
            refine (H10 _ (hr.later hb21)).out.mono ?_
            rintro e w22 ⟨A6, c6, rfl, ho6, hbx22⟩
            have hb22 := bl_call hb21 hbx22
            have hr6 := (own_rd ho6).1
            go_wp2_with (fail)
            refine (H12 _ _ _ hr6).out.mono ?_
            rintro e w23 ⟨rfl, hbx23⟩
            have hb23 := bl_call hb22 hbx23
            go_wp2_with (fail)
            go_ret
            exact ⟨rfl, hb23⟩
    · have h := HALL.out k (by have := HK5.out; omega)
      generalize tm l k = T at *
      clear HTK
      go_wp2_with (fail)
      go_roundg gi
      case rel => exact ⟨k + 1, by have := HK5.out; show _ = _; omega, by go_num, hrt, hb⟩
      case measure => omega
end Go.Proofs.Ytbbhaongakmhpaa
