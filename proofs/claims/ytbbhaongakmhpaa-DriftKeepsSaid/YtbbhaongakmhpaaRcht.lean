/- Which tracks keep readings: the specification's CheckTrack. -/
import Derived.Test.YtbbhaongakmhpaaCht
import Derived.Test.YtbbhaongakmhpaaRver
namespace Go.Proofs.Ytbbhaongakmhpaa
open Go.RowKit

set_option maxRecDepth 100000 in
set_option maxHeartbeats 16000000 in
theorem rCheckTrack_c (A B : Option Addr) (l : List T3) (tr : List Int) (cap d : Nat) (r : Int) (w : World) (hlen : l.length ≤ 1000) (htl : tr.length ≤ 100000) (hr : Rd w A (cellsT l)) (hq : Rd w B (ints tr)) :
    Calls Try.prog 39 #[.slice A l.length cap, .int .i64 r, .slice B tr.length d] w fun e w' => e = .returned (.int .i64 (chtE l r tr)) ∧ Below w.heap.size w w' := by
  have HV := Lib.hid (rated_c A l cap r w hlen hr)
  by_cases hv : ratE l r = 0
  · obtain ⟨ho, h0, h9⟩ := ratE_ok.1 hv
    have hne := ho.ne
    have hk : l.length - 1 < l.length := by omega
    obtain ⟨bq, oq, rfl, hcl⟩ := hr.tris hk
    obtain ⟨bq', oq', he, hcl0⟩ := hr.tris hne
    injection he with he
    injection he with e1 e2
    subst e1 e2
    have HCT : Hid (∀ w1, Below w.heap.size w w1 → w1.cell? ⟨bq, oq + (l.length - 1) * 3, none⟩ = some (.int .i64 (tm l (l.length - 1))) ∧ w1.cell? ⟨bq, oq, none⟩ = some (.int .i64 (tm l 0))) := fun w1 h => by
      have a := (hcl w1 h).1
      have b := (hcl0 w1 h).1
      rw [Nat.zero_mul, Nat.add_zero] at b
      exact ⟨a, b⟩
    have a1 := ho.t0 0 hne
    have a2 := ho.t1 0 hne
    have a3 := ho.t0 _ hk
    have a4 := ho.t1 _ hk
    have e1 : (l.length : Int) - 1 = ((l.length - 1 : Nat) : Int) := by omega
    have e2 : IntKind.i64.wrap ((l.length - 1 : Nat) : Int) = ((l.length - 1 : Nat) : Int) := by rw [IntWalk.i64_left]; exact IntWalk.wrap64_in _ ⟨by omega, by omega⟩
    have e3 : ((l.length - 1 : Nat) : Int) < (l.length : Int) := by omega
    have h0' : (0 : Int) < (l.length : Int) := by omega
    have hnn : ¬ l = [] := by rintro rfl; simp at hne
    have s1 : IntKind.i64.wrap (tm l (l.length - 1) - tm l 0) = tm l (l.length - 1) - tm l 0 := by rw [IntWalk.i64_left]; exact IntWalk.wrap64_in _ ⟨by omega, by omega⟩
    have s2 : IntKind.i64.wrap (tm l (l.length - 1) - tm l 0 + 1) = tm l (l.length - 1) - tm l 0 + 1 := by rw [IntWalk.i64_left]; exact IntWalk.wrap64_in _ ⟨by omega, by omega⟩
    have HTI : timesI l = tm l (l.length - 1) - tm l 0 + 1 := rfl
    clear hcl hcl0
    have hE : chtE l r tr = keepE l r tr := by unfold chtE; rw [if_pos hv]
    rw [hE]
    rw [hv] at HV
    obtain ⟨p1, p2⟩ := times_pos ho
    by_cases hln : (tr.length : Int) = timesI l
    · have HTin := Lib.hid (fun k (hk : k < l.length) => time_in ho hk)
      have HTb := Lib.hid (fun k (hk : k < l.length) => (⟨ho.t0 k hk, ho.t1 k hk⟩ : 0 ≤ tm l k ∧ tm l k ≤ 1000))
      have HNE := Lib.hid ho.ne
      have K2 := Lib.hid (keep_rng (r := r) hln)
      have K3 := Lib.hid (keep_stp (r := r) hln)
      have K4 := Lib.hid (keep_met (r := r) hln)
      have K5 := Lib.hid (keep_all (r := r) hln)
      have HLN := Lib.hid hln
      have hneq : ((tr.length : Int) != tm l (l.length - 1) - tm l 0 + 1) = false := by rw [hln, HTI]; simp
      clear hv ho hE hln
      generalize keepE l r tr = res at *
      go_enter Try.func39, Try.ntmps39
      go_wp2_with (fail)
      refine HV.out.mono ?_
      rintro e w1 ⟨rfl, hb12⟩
      obtain ⟨c0, c1⟩ := HCT.out w1 hb12
      go_wp2_with (fail)
      clear HV hneq c0 c1 HCT e1 e2 e3 s1 s2 a1 a2 a3 a4
      go_loopg [9] tr.length (fun gk iv wr => ∃ k : Nat, Hid (k + gk = tr.length) ∧ iv = .int .i64 (k : Int) ∧ Hid (allTo (rangeT tr) k = true) ∧ Below w.heap.size w wr)
      case atStart => exact ⟨0, by simp [Hid], rfl, rfl, hb12⟩
      case round =>
        obtain ⟨k, HK, rfl, hall, hb⟩ := hrel
        clear hb12
        rcases gk with _ | gi
        · obtain rfl : k = tr.length := HK.out
          have hn1 : 1 ≤ tr.length := by have := HLN.out; omega
          go_wp2_with (fail)
          go_loopg [10] (tr.length - 1) (fun gk iv wr => ∃ k : Nat, Hid (k + 1 + gk = tr.length) ∧ iv = .int .i64 ((k + 1 : Nat) : Int) ∧ Hid (allTo (stepT tr r) (k + 1) = true) ∧ Below w.heap.size w wr)
          case atStart => exact ⟨0, by show _ = _; omega, rfl, by show _ = _; simp [allTo, stepT], hb⟩
          case round =>
            obtain ⟨k, HK2, rfl, hall2, hb⟩ := hrel
            rcases gk with _ | gi
            · have hk1 : k + 1 = tr.length := HK2.out
              have HA2 : Hid (allTo (stepT tr r) tr.length = true) := by have := hall2.out; rw [hk1] at this; exact this
              have hge : ¬ (((k + 1 : Nat) : Int) < (tr.length : Int)) := by omega
              have hge2 : ¬ ((k : Int) + 1 < (tr.length : Int)) := by omega
              clear hk1 HK2 hall2
              go_wp2_with (fail)
              go_loopg [11] l.length (fun gk iv wr => ∃ k : Nat, Hid (k + gk = l.length) ∧ iv = .int .i64 (k : Int) ∧ Hid (allTo (meetT l tr) k = true) ∧ Below w.heap.size w wr)
              case atStart => exact ⟨0, by simp [Hid], rfl, rfl, hb⟩
              case round =>
                obtain ⟨k3, HK3, rfl, hall3, hb⟩ := hrel
                rcases gk with _ | gi
                · obtain rfl : k3 = l.length := HK3.out
                  have HN := Lib.hid (K5.out hall.out HA2.out hall3.out)
                  go_wp2_with (fail)
                  go_ret
                  exact ⟨ret_i HN.out, hb⟩
                · have hlt : k3 < l.length := by have := HK3.out; omega
                  have hlt' : (k3 : Int) < (l.length : Int) := by omega
                  obtain ⟨t1, t2⟩ := HTin.out k3 hlt
                  obtain ⟨u1, u2⟩ := HTb.out k3 hlt
                  obtain ⟨u3, u4⟩ := HTb.out 0 HNE.out
                  have hne0 := HNE.out
                  have h0' : (0 : Int) < (l.length : Int) := by omega
                  have hnn : ¬ l = [] := by rintro rfl; simp at hne0
                  obtain ⟨b2, o2, he, hbl, ⟨c0_, c1_, c2_⟩, d0_, -, -⟩ := (hr.later hb).tri2 hlt HNE.out
                  injection he with he
                  injection he with e1 e2
                  subst e1 e2
                  have c0 : wr.cell? ⟨bq, oq + k3 * 3, none⟩ = some (.int .i64 (tm l k3)) := c0_
                  have c1 : wr.cell? ⟨bq, oq + k3 * 3 + 1, none⟩ = some (.int .i64 (lw l k3)) := c1_
                  have c2 : wr.cell? ⟨bq, oq + k3 * 3 + 2, none⟩ = some (.int .i64 (hg l k3)) := c2_
                  have d0 : wr.cell? ⟨bq, oq, none⟩ = some (.int .i64 (tm l 0)) := by rw [Nat.zero_mul, Nat.add_zero] at d0_; exact d0_
                  obtain ⟨j, hj⟩ : ∃ j : Nat, tm l k3 - tm l 0 = (j : Int) := ⟨_, (Int.toNat_of_nonneg t1).symm⟩
                  have hjl : j < tr.length := by have := HLN.out; omega
                  have hjl' : (j : Int) < (tr.length : Int) := by omega
                  obtain ⟨b3, o3, rfl, hb3l, hc⟩ := (hq.later hb).at_ (k := j) (by simpa using hjl)
                  have hcj := hc j _ (ints_get hjl)
                  obtain ⟨n1, n2⟩ := all_step hlt hall3.out
                  have N1 := Lib.hid n1
                  have N2 := Lib.hid n2
                  have HM : Hid (meetT l tr k3 = (decide (lw l k3 ≤ tr.getD j 0) && decide (tr.getD j 0 ≤ hg l k3))) := by show _ = _; rw [meetT_dec, hj]; rfl
                  have s1 : IntKind.i64.wrap (tm l k3 - tm l 0) = (j : Int) := by rw [IntWalk.i64_left, IntWalk.wrap64_in _ ⟨by omega, by omega⟩, hj]
                  clear hc n1 n2 hj t1 t2 u1 u2 u3 u4 c0_ c1_ c2_ d0_
                  generalize tr.getD j 0 = x at *
                  generalize tm l k3 = T at *
                  generalize tm l 0 = T0 at *
                  generalize lw l k3 = L at *
                  generalize hg l k3 = H at *
                  have HCL : Hid (∀ w1, Below wr.heap.size wr w1 → (w1.cell? ⟨bq, oq + k3 * 3, none⟩ = some (.int .i64 T) ∧ w1.cell? ⟨bq, oq + k3 * 3 + 1, none⟩ = some (.int .i64 L) ∧ w1.cell? ⟨bq, oq + k3 * 3 + 2, none⟩ = some (.int .i64 H)) ∧ w1.cell? ⟨b3, o3 + j, none⟩ = some (.int .i64 x)) := fun w1 hw => by
                    have hh : ∀ b j, b < wr.heap.size → w1.cell? ⟨b, j, none⟩ = wr.cell? ⟨b, j, none⟩ := fun b j hbb => hw.cell (p := ⟨b, j, none⟩) hbb
                    exact ⟨⟨by rw [hh _ _ hbl]; exact c0, by rw [hh _ _ hbl]; exact c1, by rw [hh _ _ hbl]; exact c2⟩, by rw [hh _ _ hb3l]; exact hcj⟩
                  have hbW : Below wr.heap.size wr wr.drew := (Below.refl _ _).drew
                  clear c0 c1 c2 d0 hcj
                  have HM2 : Hid (meetT l tr k3 = inB x L H) := HM.out
                  clear HM
                  rcases hin : inB x L H with _ | _
                  · have HN := Lib.hid (K4.out hall.out HA2.out (N2.out (HM2.out.trans hin)))
                    clear N1 N2 HM2
                    go_wp2_with (fail)
                    refine wp_region_low (hbW) (by kernel_rfl) (by kernel_rfl) ?_
                    repeat (first
                      | go_big_quiet_skip
                      | (go_big_quiet_want
                         apply Exists.intro
                         refine And.intro (fun W hW => ?_) ?_
                         · (obtain ⟨⟨z0, z1, z2⟩, z3⟩ := HCL.out W hW)
                           go_simp
                           first
                             | exact rfl
                             | (refine (within_c _ _ _ W).mono ?_; rintro e w1 ⟨rfl, rfl⟩; exact ⟨rfl, hW⟩)
                         try go_simp
                         go_big_quiet_on))
                    refine wpQuiet_nil ?_
                    intro w9 hb9
                    go_wp2_with (fail)
                    go_ret
                    exact ⟨ret_i HN.out, bl_call hb hb9⟩
                  · have HN := Lib.hid (N1.out (HM2.out.trans hin))
                    clear N1 N2 HM2
                    go_wp2_with (fail)
                    refine wp_region_low (hbW) (by kernel_rfl) (by kernel_rfl) ?_
                    repeat (first
                      | go_big_quiet_skip
                      | (go_big_quiet_want
                         apply Exists.intro
                         refine And.intro (fun W hW => ?_) ?_
                         · (obtain ⟨⟨z0, z1, z2⟩, z3⟩ := HCL.out W hW)
                           go_simp
                           first
                             | exact rfl
                             | (refine (within_c _ _ _ W).mono ?_; rintro e w1 ⟨rfl, rfl⟩; exact ⟨rfl, hW⟩)
                         try go_simp
                         go_big_quiet_on))
                    refine wpQuiet_nil ?_
                    intro w9 hb9
                    go_wp2_with (fail)
                    go_roundg gi
                    case rel => exact ⟨k3 + 1, by have := HK3.out; show _ = _; omega, by go_num, HN, bl_call hb hb9⟩
                    case measure => omega
            · have hlt : k + 1 < tr.length := by have := HK2.out; omega
              have hlt0 : k < tr.length := by omega
              have hlt' : ((k + 1 : Nat) : Int) < (tr.length : Int) := by omega
              have hltk : (k : Int) < (tr.length : Int) := by omega
              have r1 := inB_z.1 (allTo_iff.1 hall.out k hlt0)
              have r2 := inB_z.1 (allTo_iff.1 hall.out (k + 1) hlt)
              obtain ⟨b2, o2, rfl, hbl, hc⟩ := (hq.later hb).at_ (k := k) (by simpa using hlt0)
              have hca := hc k _ (ints_get hlt0)
              have hcb := hc (k + 1) _ (ints_get hlt)
              obtain ⟨n1, n2⟩ := all_step hlt hall2.out
              rw [stepT_dec] at n1 n2
              have N1 := Lib.hid n1
              have N2 := Lib.hid n2
              clear hc n1 n2
              generalize tr.getD k 0 = x at *
              generalize tr.getD (k + 1) 0 = y at *
              have HD := fun w => Lib.hid (far_c y x w ⟨by omega, by omega⟩ ⟨by omega, by omega⟩)
              rw [farI_comm y x] at HD
              generalize farI x y = f at *
              clear r1 r2
              have HCL : Hid (∀ w1, Below wr.heap.size wr w1 → w1.cell? ⟨b2, o2 + k, none⟩ = some (.int .i64 x) ∧ w1.cell? ⟨b2, o2 + (k + 1), none⟩ = some (.int .i64 y)) := fun w1 hw => by
                have hh : ∀ j, w1.cell? ⟨b2, j, none⟩ = wr.cell? ⟨b2, j, none⟩ := fun j => hw.cell (p := ⟨b2, j, none⟩) hbl
                exact ⟨by rw [hh]; exact hca, by rw [hh]; exact hcb⟩
              clear hca hcb
              have e1 : ((k + 1 : Nat) : Int) - 1 = (k : Int) := by omega
              have e1b : (k : Int) + 1 - 1 = (k : Int) := by omega
              have e2 : IntKind.i64.wrap (k : Int) = (k : Int) := by rw [IntWalk.i64_left]; exact IntWalk.wrap64_in _ ⟨by omega, by omega⟩
              have hbW : Below wr.heap.size wr wr.drew := (Below.refl _ _).drew
              generalize hk1 : k + 1 = m at *
              have HM1 := Lib.hid hk1
              clear hk1
              go_wp2_with (fail)
              refine wp_region_low (hbW) (by kernel_rfl) (by kernel_rfl) ?_
              repeat (first
                | go_big_quiet_skip
                | (go_big_quiet_want
                   apply Exists.intro
                   refine And.intro (fun W hW => ?_) ?_
                   · (obtain ⟨z0, z1⟩ := HCL.out W hW)
                     go_simp
                     first
                       | exact rfl
                       | (refine (HD W).out.mono ?_; rintro e w1 ⟨rfl, rfl⟩; exact ⟨rfl, hW⟩)
                   try go_simp
                   go_big_quiet_on))
              refine wpQuiet_nil ?_
              intro w9 hb9
              have hb10 := bl_call hb hb9
              by_cases hfr : f ≤ r
              · have HN := Lib.hid (N1.out (decide_eq_true hfr))
                clear N1 N2
                go_wp2_with (fail)
                go_roundg gi
                case rel => exact ⟨k + 1, by have := HK2.out; have := HM1.out; show _ = _; omega, by have := HM1.out; rw [this]; go_num, by have := HM1.out; rw [this]; exact HN.out, hb10⟩
                case measure => omega
              · have HN := Lib.hid (K3.out hall.out (N2.out (decide_eq_false hfr)))
                clear N1 N2
                go_wp2_with (fail)
                go_ret
                exact ⟨ret_i HN.out, hb10⟩
        · have hlt : k < tr.length := by have := HK.out; omega
          have hlt' : (k : Int) < (tr.length : Int) := by omega
          obtain ⟨b2, o2, rfl, _, hc⟩ := (hq.later hb).at_ (k := k) (by simpa using hlt)
          have hck := hc k _ (ints_get hlt)
          obtain ⟨n1, n2⟩ := all_step hlt hall.out
          have N1 := Lib.hid n1
          have N2 := Lib.hid n2
          have HR : Hid (rangeT tr k = inB (tr.getD k 0) (-1000) 1000) := rfl
          clear hc n1 n2
          rcases hv : inB (tr.getD k 0) (-1000) 1000 with _ | _
          · have HN := Lib.hid (K2.out (N2.out (HR.out.trans hv)))
            clear N1 N2
            generalize tr.getD k 0 = x at *
            go_wp2_with (go_at_call 62; refine (within_c _ _ _ _).mono ?_; rintro e w2 ⟨rfl, rfl⟩)
            go_ret
            exact ⟨ret_i HN.out, hb⟩
          · have HN := Lib.hid (N1.out (HR.out.trans hv))
            clear N1 N2
            generalize tr.getD k 0 = x at *
            go_wp2_with (go_at_call 62; refine (within_c _ _ _ _).mono ?_; rintro e w2 ⟨rfl, rfl⟩)
            go_roundg gi
            case rel => exact ⟨k + 1, by have := HK.out; show _ = _; omega, by go_num, HN, hb⟩
            case measure => omega
    · have HN := Lib.hid (keep_len (r := r) hln)
      have hne : ((tr.length : Int) != tm l (l.length - 1) - tm l 0 + 1) = true := by rw [bne_iff_ne, ← HTI]; exact hln
      clear hv ho h0 h9 hE hln
      generalize keepE l r tr = res at *
      go_enter Try.func39, Try.ntmps39
      go_wp2_with (fail)
      refine HV.out.mono ?_
      rintro e w1 ⟨rfl, hb12⟩
      obtain ⟨c0, c1⟩ := HCT.out w1 hb12
      go_wp2_with (fail)
      go_ret
      exact ⟨ret_i HN.out, hb12⟩
  · have hv' : (ratE l r != 0) = true := by simpa using hv
    have hE : chtE l r tr = ratE l r := by unfold chtE; rw [if_neg hv]
    rw [hE]
    clear hE
    generalize ratE l r = v at *
    go_enter Try.func39, Try.ntmps39
    go_wp2_with (go_at_call 57; refine HV.out.mono ?_; rintro e w1 ⟨rfl, hb1⟩)
    go_ret
    exact ⟨rfl, hb1⟩
end Go.Proofs.Ytbbhaongakmhpaa
