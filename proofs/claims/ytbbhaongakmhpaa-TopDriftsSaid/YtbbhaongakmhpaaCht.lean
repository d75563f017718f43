/- Which tracks keep readings: package drift's CheckTrack. -/
import Derived.Test.YtbbhaongakmhpaaTrk
namespace Go.Proofs.Ytbbhaongakmhpaa
open Go.RowKit

def chtE (l : List T3) (r : Int) (tr : List Int) : Int := if ratE l r = 0 then keepE l r tr else ratE l r
theorem keep_len {l : List T3} {r : Int} {tr : List Int} (h : ¬ (tr.length : Int) = timesI l) : keepE l r tr = 1 := by unfold keepE; rw [if_neg h]
theorem keep_rng {l : List T3} {r : Int} {tr : List Int} (h : (tr.length : Int) = timesI l) (h2 : allTo (rangeT tr) tr.length = false) : keepE l r tr = 1 := by unfold keepE; rw [if_pos h, if_neg (by rw [h2]; decide)]
theorem keep_stp {l : List T3} {r : Int} {tr : List Int} (h : (tr.length : Int) = timesI l) (h2 : allTo (rangeT tr) tr.length = true) (h3 : allTo (stepT tr r) tr.length = false) : keepE l r tr = 8 := by
  unfold keepE; rw [if_pos h, if_pos h2, if_neg (by rw [h3]; decide)]
theorem keep_met {l : List T3} {r : Int} {tr : List Int} (h : (tr.length : Int) = timesI l) (h2 : allTo (rangeT tr) tr.length = true) (h3 : allTo (stepT tr r) tr.length = true) (h4 : allTo (meetT l tr) l.length = false) : keepE l r tr = 7 := by
  unfold keepE; rw [if_pos h, if_pos h2, if_pos h3, if_neg (by rw [h4]; decide)]
theorem keep_all {l : List T3} {r : Int} {tr : List Int} (h : (tr.length : Int) = timesI l) (h2 : allTo (rangeT tr) tr.length = true) (h3 : allTo (stepT tr r) tr.length = true) (h4 : allTo (meetT l tr) l.length = true) : keepE l r tr = 0 := by
  unfold keepE; rw [if_pos h, if_pos h2, if_pos h3, if_pos h4]
theorem all_step {f : Nat → Bool} {n k : Nat} (hk : k < n) (h : allTo f k = true) : (f k = true → allTo f (k + 1) = true) ∧ (f k = false → allTo f n = false) :=
  ⟨fun h1 => by rw [allTo, h, h1]; rfl, fun h1 => allTo_no hk h1⟩
theorem stepT_dec (tr : List Int) (r : Int) (k : Nat) : stepT tr r (k + 1) = decide (farI (tr.getD k 0) (tr.getD (k + 1) 0) ≤ r) := by
  unfold stepT; simp
theorem meetT_dec {l : List T3} {tr : List Int} {k : Nat} : meetT l tr k = (decide (lw l k ≤ tr.getD (tm l k - tm l 0).toNat 0) && decide (tr.getD (tm l k - tm l 0).toNat 0 ≤ hg l k)) := rfl
set_option maxRecDepth 100000 in
set_option maxHeartbeats 16000000 in
theorem CheckTrack_c (A B : Option Addr) (l : List T3) (tr : List Int) (cap d : Nat) (r : Int) (w : World) (hlen : l.length ≤ 1000) (htl : tr.length ≤ 100000) (hr : Rd w A (cellsT l)) (hq : Rd w B (ints tr)) :
    Calls Try.prog 40 #[.slice A l.length cap, .int .i64 r, .slice B tr.length d] w fun e w' => e = .returned (.int .i64 (chtE l r tr)) ∧ Below w.heap.size w w' := by
  have HV := Lib.hid (validateBy_c A l cap r w hlen hr)
  by_cases hv : ratE l r = 0
  · obtain ⟨ho, h0, h9⟩ := ratE_ok.1 hv
    have HTI := fun w' h => Lib.hid (timesOf_c A l cap w' ho (hr.later (w' := w') h))
    have hE : chtE l r tr = keepE l r tr := by unfold chtE; rw [if_pos hv]
    rw [hE]
    rw [hv] at HV
    obtain ⟨p1, p2⟩ := times_pos ho
    by_cases hln : (tr.length : Int) = timesI l
    · have HTin := Lib.hid (fun k (hk : k < l.length) => time_in ho hk)
      have HTb := Lib.hid (fun k (hk : k < l.length) => (⟨ho.t0 k hk, ho.t1 k hk⟩ : 0 ≤ tm l k ∧ tm l k ≤ 1000))
      have HNE := Lib.hid ho.ne
      have K2 := Lib.hid (keep_rng (r := r) hln)
      have K3 := Lib.hid (keep_stp (r := r) hln)
      have K4 := Lib.hid (keep_met (r := r) hln)
      have K5 := Lib.hid (keep_all (r := r) hln)
      have HLN := Lib.hid hln
      rw [← hln] at HTI p1 p2
      clear hv ho hE hln
      generalize keepE l r tr = res at *
      go_enter Try.func40, Try.ntmps40
      go_wp2_with (first | (go_at_call 55; refine HV.out.mono ?_; rintro e w1 ⟨rfl, hb1⟩) | (go_at_call 77; refine (HTI _ hb1).out.mono ?_; rintro e w2 ⟨rfl, hb2⟩; have hb12 := bl_call hb1 hb2))
      clear HTI HV hb1 hb2
      go_loopg [27] tr.length (fun gk iv wr => ∃ k : Nat, Hid (k + gk = tr.length) ∧ iv = .int .i64 (k : Int) ∧ Hid (allTo (rangeT tr) k = true) ∧ Below w.heap.size w wr)
      case atStart => exact ⟨0, by simp [Hid], rfl, rfl, hb12⟩
      case round =>
        obtain ⟨k, HK, rfl, hall, hb⟩ := hrel
        clear hb12
        rcases gk with _ | gi
        · obtain rfl : k = tr.length := HK.out
          have hn1 : 1 ≤ tr.length := by omega
          go_wp2_with (fail)
          go_loopg [10] (tr.length - 1) (fun gk iv wr => ∃ k : Nat, Hid (k + 1 + gk = tr.length) ∧ iv = .int .i64 ((k + 1 : Nat) : Int) ∧ Hid (allTo (stepT tr r) (k + 1) = true) ∧ Below w.heap.size w wr)
          case atStart => exact ⟨0, by show _ = _; omega, rfl, by show _ = _; simp [allTo, stepT], hb⟩
          case round =>
            obtain ⟨k, HK2, rfl, hall2, hb⟩ := hrel
            rcases gk with _ | gi
            · have hk1 : k + 1 = tr.length := HK2.out
              have HA2 : Hid (allTo (stepT tr r) tr.length = true) := by have := hall2.out; rw [hk1] at this; exact this
              have hge : ¬ (((k + 1 : Nat) : Int) < (tr.length : Int)) := by omega
              have hge2 : ¬ ((k : Int) + 1 < (tr.length : Int)) := by omega
              clear hk1 HK2 hall2
              go_wp2_with (fail)
              go_loopg [55] l.length (fun gk iv wr => ∃ k : Nat, Hid (k + gk = l.length) ∧ iv = .int .i64 (k : Int) ∧ Hid (allTo (meetT l tr) k = true) ∧ Below w.heap.size w wr)
              case atStart => exact ⟨0, by simp [Hid], rfl, rfl, hb⟩
              case round =>
                obtain ⟨k3, HK3, rfl, hall3, hb⟩ := hrel
                rcases gk with _ | gi
                · obtain rfl : k3 = l.length := HK3.out
                  have HN := Lib.hid (K5.out hall.out HA2.out hall3.out)
                  go_wp2_with (fail)
                  go_ret
                  exact ⟨ret_i HN.out, hb⟩
                · have hlt : k3 < l.length := by have := HK3.out; omega
                  have hlt' : (k3 : Int) < (l.length : Int) := by omega
                  obtain ⟨t1, t2⟩ := HTin.out k3 hlt
                  obtain ⟨u1, u2⟩ := HTb.out k3 hlt
                  obtain ⟨u3, u4⟩ := HTb.out 0 HNE.out
                  have hne0 := HNE.out
                  have h0' : (0 : Int) < (l.length : Int) := by omega
                  have hnn : ¬ l = [] := by rintro rfl; simp at hne0
                  obtain ⟨b2, o2, rfl, hbl, ⟨c0_, c1_, c2_⟩, d0_, -, -⟩ := (hr.later hb).tri2 hlt HNE.out
                  have c0 : wr.cell? ⟨b2, o2 + k3 * 3, none⟩ = some (.int .i64 (tm l k3)) := c0_
                  have c1 : wr.cell? ⟨b2, o2 + k3 * 3 + 1, none⟩ = some (.int .i64 (lw l k3)) := c1_
                  have c2 : wr.cell? ⟨b2, o2 + k3 * 3 + 2, none⟩ = some (.int .i64 (hg l k3)) := c2_
                  have d0 : wr.cell? ⟨b2, o2, none⟩ = some (.int .i64 (tm l 0)) := by rw [Nat.zero_mul, Nat.add_zero] at d0_; exact d0_
                  obtain ⟨j, hj⟩ : ∃ j : Nat, tm l k3 - tm l 0 = (j : Int) := ⟨_, (Int.toNat_of_nonneg t1).symm⟩
                  have hjl : j < tr.length := by have := HLN.out; omega
                  have hjl' : (j : Int) < (tr.length : Int) := by omega
                  obtain ⟨b3, o3, rfl, hb3l, hc⟩ := (hq.later hb).at_ (k := j) (by simpa using hjl)
                  have hcj := hc j _ (ints_get hjl)
                  obtain ⟨n1, n2⟩ := all_step hlt hall3.out
                  have N1 := Lib.hid n1
                  have N2 := Lib.hid n2
                  have HM : Hid (meetT l tr k3 = (decide (lw l k3 ≤ tr.getD j 0) && decide (tr.getD j 0 ≤ hg l k3))) := by show _ = _; rw [meetT_dec, hj]; rfl
                  have s1 : IntKind.i64.wrap (tm l k3 - tm l 0) = (j : Int) := by rw [IntWalk.i64_left, IntWalk.wrap64_in _ ⟨by omega, by omega⟩, hj]
                  clear hc n1 n2 hj t1 t2 u1 u2 u3 u4 c0_ c1_ c2_ d0_
                  generalize tr.getD j 0 = x at *
                  generalize tm l k3 = T at *
                  generalize tm l 0 = T0 at *
                  generalize lw l k3 = L at *
                  generalize hg l k3 = H at *
                  obtain ⟨W0, hW0⟩ : ∃ W0, W0 = wr.alloc (.cells #[.int .i64 T, .int .i64 L, .int .i64 H] 55) := ⟨_, rfl⟩
                  have hW1 : Below wr.heap.size wr W0 := by rw [hW0]; exact bl_alloc (Below.refl _ _) _
                  have hbA : Below w.heap.size w W0 := bl_call hb hW1
                  have hvA : Bx W0 wr.heap.size 55 #[.int .i64 T, .int .i64 L, .int .i64 H] := by rw [hW0]; exact Bx.new _ _ _
                  have HCL : Hid (∀ w1, Below W0.heap.size W0 w1 → w1.cell? ⟨wr.heap.size, 0, none⟩ = some (.int .i64 T) ∧ w1.cell? ⟨b2, o2, none⟩ = some (.int .i64 T0) ∧ w1.cell? ⟨b3, o3 + j, none⟩ = some (.int .i64 x)) := fun w1 hw => by
                    have hh : ∀ b j, b < wr.heap.size → w1.cell? ⟨b, j, none⟩ = wr.cell? ⟨b, j, none⟩ := fun b j hbb => (hw.cell (p := ⟨b, j, none⟩) (by have := hW1.size; show b < W0.heap.size; omega)).trans (hW1.cell (p := ⟨b, j, none⟩) hbb)
                    exact ⟨(hvA.call hw).three.1, by rw [hh _ _ hbl]; exact d0, by rw [hh _ _ hb3l]; exact hcj⟩
                  have hbW : Below W0.heap.size W0 W0.drew := (Below.refl _ _).drew
                  go_wp2_with (fail)
                  rw [← hW0]
                  clear hW0 c0 c1 c2 d0 hcj
                  refine wp_region_low (hbW) (by kernel_rfl) (by kernel_rfl) ?_
                  repeat (first
                    | go_big_quiet_skip
                    | (go_big_quiet_want
                       apply Exists.intro
                       refine And.intro (fun W hW => ?_) ?_
                       · (obtain ⟨z0, z1, z2⟩ := HCL.out W hW)
                         go_simp
                         first
                           | exact rfl
                           | (fail)
                       try go_simp
                       go_big_quiet_on))
                  refine wpQuiet_nil ?_
                  intro w9 hb9
                  obtain ⟨y0, y1, y2, _, _, _⟩ := (hvA.call hb9).three
                  have hb10 := bl_call hbA hb9
                  clear hbA hvA HCL hW1
                  by_cases e1 : x < L
                  · have HN := Lib.hid (K4.out hall.out HA2.out (N2.out (HM.out.trans (by simp; omega))))
                    clear N1 N2 HM
                    go_wp2_with (fail)
                    go_ret
                    exact ⟨ret_i HN.out, hb10⟩
                  · by_cases e2 : H < x
                    · have HN := Lib.hid (K4.out hall.out HA2.out (N2.out (HM.out.trans (by simp; omega))))
                      clear N1 N2 HM
                      go_wp2_with (fail)
                      go_ret
                      exact ⟨ret_i HN.out, hb10⟩
                    · have HN := Lib.hid (N1.out (HM.out.trans (by simp; omega)))
                      clear N1 N2 HM
                      go_wp2_with (fail)
                      go_roundg gi
                      case rel => exact ⟨k3 + 1, by have := HK3.out; show _ = _; omega, by go_num, HN, hb10⟩
                      case measure => omega
            · have hlt : k + 1 < tr.length := by have := HK2.out; omega
              have hlt0 : k < tr.length := by omega
              have hlt' : ((k + 1 : Nat) : Int) < (tr.length : Int) := by omega
              have hltk : (k : Int) < (tr.length : Int) := by omega
              have r1 := inB_z.1 (allTo_iff.1 hall.out k hlt0)
              have r2 := inB_z.1 (allTo_iff.1 hall.out (k + 1) hlt)
              obtain ⟨b2, o2, rfl, hbl, hc⟩ := (hq.later hb).at_ (k := k) (by simpa using hlt0)
              have hca := hc k _ (ints_get hlt0)
              have hcb := hc (k + 1) _ (ints_get hlt)
              obtain ⟨n1, n2⟩ := all_step hlt hall2.out
              rw [stepT_dec] at n1 n2
              have N1 := Lib.hid n1
              have N2 := Lib.hid n2
              clear hc n1 n2
              generalize tr.getD k 0 = x at *
              generalize tr.getD (k + 1) 0 = y at *
              have HD := fun w => Lib.hid (distance_c x y w ⟨by omega, by omega⟩ ⟨by omega, by omega⟩)
              generalize farI x y = f at *
              clear r1 r2
              have HCL : Hid (∀ w1, Below wr.heap.size wr w1 → w1.cell? ⟨b2, o2 + k, none⟩ = some (.int .i64 x) ∧ w1.cell? ⟨b2, o2 + (k + 1), none⟩ = some (.int .i64 y)) := fun w1 hw => by
                have hh : ∀ j, w1.cell? ⟨b2, j, none⟩ = wr.cell? ⟨b2, j, none⟩ := fun j => hw.cell (p := ⟨b2, j, none⟩) hbl
                exact ⟨by rw [hh]; exact hca, by rw [hh]; exact hcb⟩
              clear hca hcb
              have e1 : ((k + 1 : Nat) : Int) - 1 = (k : Int) := by omega
              have e1b : (k : Int) + 1 - 1 = (k : Int) := by omega
              have e2 : IntKind.i64.wrap (k : Int) = (k : Int) := by rw [IntWalk.i64_left]; exact IntWalk.wrap64_in _ ⟨by omega, by omega⟩
              have hbW : Below wr.heap.size wr wr.drew := (Below.refl _ _).drew
              generalize hk1 : k + 1 = m at *
              have HM1 := Lib.hid hk1
              clear hk1
              go_wp2_with (fail)
              refine wp_region_low (hbW) (by kernel_rfl) (by kernel_rfl) ?_
              repeat (first
                | go_big_quiet_skip
                | (go_big_quiet_want
                   apply Exists.intro
                   refine And.intro (fun W hW => ?_) ?_
                   · (obtain ⟨z0, z1⟩ := HCL.out W hW)
                     go_simp
                     first
                       | exact rfl
                       | (refine (HD W).out.mono ?_; rintro e w1 ⟨rfl, rfl⟩; exact ⟨rfl, hW⟩)
                   try go_simp
                   go_big_quiet_on))
              refine wpQuiet_nil ?_
              intro w9 hb9
              have hb10 := bl_call hb hb9
              by_cases hfr : f ≤ r
              · have HN := Lib.hid (N1.out (decide_eq_true hfr))
                clear N1 N2
                go_wp2_with (fail)
                go_roundg gi
                case rel => exact ⟨k + 1, by have := HK2.out; have := HM1.out; show _ = _; omega, by have := HM1.out; rw [this]; go_num, by have := HM1.out; rw [this]; exact HN.out, hb10⟩
                case measure => omega
              · have HN := Lib.hid (K3.out hall.out (N2.out (decide_eq_false hfr)))
                clear N1 N2
                go_wp2_with (fail)
                go_ret
                exact ⟨ret_i HN.out, hb10⟩
        · have hlt : k < tr.length := by have := HK.out; omega
          have hlt' : (k : Int) < (tr.length : Int) := by omega
          obtain ⟨b2, o2, rfl, _, hc⟩ := (hq.later hb).at_ (k := k) (by simpa using hlt)
          have hck := hc k _ (ints_get hlt)
          obtain ⟨n1, n2⟩ := all_step hlt hall.out
          have N1 := Lib.hid n1
          have N2 := Lib.hid n2
          have HR : Hid (rangeT tr k = inB (tr.getD k 0) (-1000) 1000) := rfl
          clear hc n1 n2
          rcases hv : inB (tr.getD k 0) (-1000) 1000 with _ | _
          · have HN := Lib.hid (K2.out (N2.out (HR.out.trans hv)))
            clear N1 N2
            generalize tr.getD k 0 = x at *
            go_wp2_with (go_at_call 78; refine (isValue_c _ _).mono ?_; rintro e w2 ⟨rfl, rfl⟩)
            go_ret
            exact ⟨ret_i HN.out, hb⟩
          · have HN := Lib.hid (N1.out (HR.out.trans hv))
            clear N1 N2
            generalize tr.getD k 0 = x at *
            go_wp2_with (go_at_call 78; refine (isValue_c _ _).mono ?_; rintro e w2 ⟨rfl, rfl⟩)
            go_roundg gi
            case rel => exact ⟨k + 1, by have := HK.out; show _ = _; omega, by go_num, HN, hb⟩
            case measure => omega
    · have HN := Lib.hid (keep_len (r := r) hln)
      have hne : ((tr.length : Int) != timesI l) = true := by rw [bne_iff_ne]; exact hln
      clear hv ho h0 h9 hE hln
      generalize keepE l r tr = res at *
      generalize timesI l = n at *
      go_enter Try.func40, Try.ntmps40
      go_wp2_with (first | (go_at_call 55; refine HV.out.mono ?_; rintro e w1 ⟨rfl, hb1⟩) | (go_at_call 77; refine (HTI _ hb1).out.mono ?_; rintro e w2 ⟨rfl, hb2⟩; have hb12 := bl_call hb1 hb2))
      go_ret
      exact ⟨ret_i HN.out, hb12⟩
  · have hv' : (ratE l r != 0) = true := by simpa using hv
    have hE : chtE l r tr = ratE l r := by unfold chtE; rw [if_neg hv]
    rw [hE]
    clear hE
    generalize ratE l r = v at *
    go_enter Try.func40, Try.ntmps40
    go_wp2_with (go_at_call 55; refine HV.out.mono ?_; rintro e w1 ⟨rfl, hb1⟩)
    go_ret
    exact ⟨rfl, hb1⟩
end Go.Proofs.Ytbbhaongakmhpaa
