/- Speed: the specification's. -/
import Derived.Test.YtiffgaelndajpaaSpd
namespace Go.Proofs.Ytiffgaelndajpaa
open Go.RowKit

theorem results_cell_tmp {P : Program} {fn : Func} {p q : Tmp} {ty : TypeId} (h : fn.results = #[.cell p ty, .tmp q]) (tmps : Array Value) (w : World) (g : Nat) (t : TypeId) (cs : Array Value) (fr : Nat × Nat) (d : TypeDesc) (x : Value)
    (hp : tmps.getD p undef = .pointer (some ⟨g, 0, none⟩)) (hq : tmps.getD q undef = x) (hg : w.heap[g]? = some (.cells cs t fr))
    (hu : P.underlying ty = some d) (hd : (match d with | .struct _ | .array _ _ => true | _ => false) = true) (hi : (P.info? ty).map (·.size) = some cs.size) :
    (results fn tmps).run P w = .ok (.tuple #[.agg cs, x]) w := by
  have hp' : tmps[p]?.getD undef = .pointer (some ⟨g, 0, none⟩) := by simpa using hp
  have hq' : tmps[q]?.getD undef = x := by simpa using hq
  simp [results, h, hp', hq', asAddr, run_loadVar_row w g t ty cs fr d hg hu hd hi]
set_option maxRecDepth 100000 in
set_option maxHeartbeats 4000000 in
theorem rSpeed_c (A : Option Addr) (l : List T3) (c : Nat) (w : World) (hlen : l.length ≤ 1000) (hr : Rd w A (cellsT l)) :
    Calls Try.prog 41 #[.slice A l.length c] w fun e w' => e = .returned (.tuple #[.agg #[.int .i64 (speedG l).1, .int .i64 (speedG l).2], .int .i64 (validE l)]) ∧ Below w.heap.size w w' := by
  have hb0 : Below w.heap.size w (w.alloc (.cells #[.int .i64 0, .int .i64 0] 51)) := bl_alloc (Below.refl _ _) _
  have HV := Lib.hid (rvalidate_c A l c _ hlen (hr.later hb0))
  have x1 : Bx (w.alloc (.cells #[.int .i64 0, .int .i64 0] 51)) w.heap.size 51 #[.int .i64 0, .int .i64 0] := Bx.newAt rfl
  by_cases hv : validE l = 0
  · have hl := validE_ok.1 hv
    have HSG : Hid (speedG l = speedS l strL) := by show _ = _; rw [speedG, if_pos hv]; rfl
    rw [hv] at HV ⊢
    clear hv
    go_enter Try.func41, Try.ntmps41
    go_wp2_with (fail)
    refine HV.out.mono ?_
    rintro e w1 ⟨rfl, hb1⟩
    have hx1 := x1.call hb1
    have hb01 := bl_call hb0 hb1
    have hs2 := hx1.lt
    clear HV x1 hb0 hb1
    have hy1 := hx1.alloc (.cells #[.int .i64 0, .int .i64 1] 51)
    have hm2 : Bx (w1.alloc (.cells #[.int .i64 0, .int .i64 1] 51)) w1.heap.size 51 #[.int .i64 0, .int .i64 1] := Bx.new _ _ _
    have hb2 := bl_alloc hb01 (.cells #[.int .i64 0, .int .i64 1] 51)
    go_wp2_with (fail)
    generalize w1.alloc (.cells #[.int .i64 0, .int .i64 1] 51) = w2 at *
    generalize w1.heap.size = g at *
    clear hx1
    go_loopg [6] 60 (fun gk av wr => ∃ (a : Nat) (u v : Int), Hid (a + gk = 60) ∧ av = .int .i64 (a : Int) ∧ Hid (speedS l (preS a 0) = (u, v)) ∧ Bx wr w.heap.size 51 #[.int .i64 0, .int .i64 0] ∧ Bx wr g 51 #[.int .i64 u, .int .i64 v] ∧ Below w.heap.size w wr)
    case atStart => exact ⟨0, 0, 1, rfl, rfl, rfl, hy1, hm2, hb2⟩
    case round =>
      obtain ⟨a, u, v, HA, rfl, HP, h1, h2, hb⟩ := hrel
      clear hy1 hm2 hb2
      rcases gk with _ | gi
      · obtain rfl : a = 60 := HA.out
        have HE : Hid (speedG l = (u, v)) := by show _ = _; rw [HSG.out, ← preS_end]; exact HP.out
        obtain ⟨z1, z2, z3, z4⟩ := h2.two
        obtain ⟨y1, y2, y3, y4⟩ := h1.two
        go_wp2_with (fail)
        refine bodyPost_ret (results_cell_tmp rfl _ _ w.heap.size 51 _ (0, 0) _ _ rfl rfl (h1.set2 _ _) Try.underlying51 rfl (by kernel_rfl)) rfl ?_
        exact ⟨by rw [HE.out]; rfl, bl_set (bl_set hb (Nat.le_refl _) _) (Nat.le_refl _) _⟩
      · have ha : a < 60 := by have := HA.out; omega
        have ha' : (a : Int) < 60 := by omega
        go_wp2_with (fail)
        go_loopg [7] (60 - a) (fun gk bv wq => ∃ (m : Nat) (u v : Int), Hid (m + gk = 60 - a) ∧ bv = .int .i64 ((a : Int) + 1 + m) ∧ Hid (speedS l (preS a m) = (u, v)) ∧ Bx wq w.heap.size 51 #[.int .i64 0, .int .i64 0] ∧ Bx wq g 51 #[.int .i64 u, .int .i64 v] ∧ Below w.heap.size w wq)
        case atStart => exact ⟨0, u, v, by simp [Hid], by simp, HP.out, h1, h2, hb⟩
        case round =>
          clear hb HP h1 h2
          obtain ⟨m, u, v, HM, rfl, HP, h1, h2, hb⟩ := hrel
          rcases gk with _ | gj
          · have hm : m = 60 - a := HM.out
            have hbb : ¬ (a : Int) + 1 + m ≤ 60 := by omega
            have HP3 : Hid (speedS l (preS (a + 1) 0) = (u, v)) := by show _ = _; rw [← preS_next, ← hm]; exact HP.out
            clear hm
            go_wp2_with (fail)
            go_roundg gi
            case rel => exact ⟨a + 1, u, v, by have := HA.out; show _ = _; omega, by go_num, HP3.out, h1, h2, hb⟩
            case measure => omega
          · have hm : m < 60 - a := by have := HM.out; omega
            have hbb : (a : Int) + 1 + m ≤ 60 := by omega
            have hm0 : (0 : Int) ≤ m := by omega
            have ha0 : (0 : Int) ≤ a := by omega
            have HD := Lib.hid (rdemand_c A l c a ((a : Int) + 1 + m) wr hlen hl.jobs (hr.later hb))
            have HS := Lib.hid (speedS_snoc l (preS a m) ((a : Int), (a : Int) + 1 + m))
            rw [← preS_succ, HP.out] at HS
            have HSS : Hid (spStep l (u, v) ((a : Int), (a : Int) + 1 + m) = if u * ((a : Int) + 1 + m - a) < dem l a ((a : Int) + 1 + m) * v then ratio (dem l a ((a : Int) + 1 + m)) ((a : Int) + 1 + m - a) else (u, v)) := rfl
            rw [HSS.out] at HS
            have hdr := dem_range hl a ((a : Int) + 1 + m)
            obtain ⟨t, hpre⟩ := preS_of a m ha (by omega)
            have his := speed_is hl (fun s hs => mem_strL.1 (show s ∈ strL by rw [hpre]; simp [hs])) (ss := preS a m)
            rw [HP.out] at his
            have u0 : 0 ≤ u := his.n0
            have u1 : u ≤ 480 := his.n1
            have v0 : 0 < v := his.d0
            have v1 : v ≤ 60 := his.d1
            obtain ⟨B, hB⟩ : ∃ B, B = (a : Int) + 1 + m := ⟨_, rfl⟩
            have HBB := Lib.hid hB
            rw [← hB] at HD HS hbb hdr ⊢
            have hB0 : 0 < B - a := by omega
            have hB1 : B - a ≤ 60 := by omega
            clear hB HSS his hpre
            obtain ⟨d0, d1⟩ := hdr
            generalize dem l a B = D at *
            have p1 : wrap64 (D * v) = D * v := mul_small d0 (by omega) (by omega) (by omega)
            have p2 : wrap64 (u * (B - a)) = u * (B - a) := mul_small u0 (by omega) (by omega) (by omega)
            have HR : Hid (u * (B - a) < D * v → 0 < D) := fun h => by
              rcases Int.lt_or_le 0 D with q | q
              · exact q
              · have a := Int.mul_nonneg u0 (show 0 ≤ B - a by omega)
                have b : D = 0 := by omega
                rw [b, Int.zero_mul] at h; omega
            by_cases hD : u * (B - a) < D * v
            · have HS2 := HS.out
              rw [if_pos hD] at HS2
              have HS3 := Lib.hid HS2
              have hDp := HR.out hD
              have HRT := fun w => Lib.hid (rRatio_i D (B - a) w d0 (by omega) hB0 (by omega))
              generalize ratio D (B - a) = r at *
              obtain ⟨r1, r2⟩ := r
              simp only [] at HRT
              clear HS HS2 HR
              go_wp2_with (fail)
              refine HD.out.mono ?_
              rintro e w4 ⟨rfl, hb4⟩
              have h24 := h2.call hb4
              obtain ⟨z1, z2, z3, z4⟩ := h24.two
              go_wp2_with (fail)
              refine (HRT _).out.mono ?_
              rintro e w5 ⟨rfl, hb5⟩
              have h15 := (h1.call hb4).call hb5
              have h25 := h24.call hb5
              have hb05 := bl_call (bl_call hb hb4) hb5
              clear z1 z2 z3 z4 h24
              obtain ⟨z1, z2, z3, z4⟩ := h25.two
              go_wp2_with (fail)
              go_roundg gj
              case rel => exact ⟨m + 1, r1, r2, by have := HM.out; show _ = _; omega, by have := HBB.out; congr 1; omega, HS3.out, (h15.far (by omega) _).far (by omega) _, h25.set2 _ _, bl_set (bl_set hb05 (by omega) _) (by omega) _⟩
              case measure => omega
            · have HS2 := HS.out
              rw [if_neg hD] at HS2
              have HS3 := Lib.hid HS2
              clear HS HS2 HR
              go_wp2_with (fail)
              refine HD.out.mono ?_
              rintro e w4 ⟨rfl, hb4⟩
              have h24 := h2.call hb4
              obtain ⟨z1, z2, z3, z4⟩ := h24.two
              go_wp2_with (fail)
              go_roundg gj
              case rel => exact ⟨m + 1, u, v, by have := HM.out; show _ = _; omega, by have := HBB.out; congr 1; omega, HS3.out, h1.call hb4, h24, bl_call hb hb4⟩
              case measure => omega
  · have HB : speedG l = (0, 0) := by rw [speedG, if_neg hv]
    have hv' : (validE l != 0) = true := by simpa using hv
    rw [HB]
    clear HB
    generalize validE l = ev at *
    go_enter Try.func41, Try.ntmps41
    go_wp2_with (fail)
    refine HV.out.mono ?_
    rintro e w1 ⟨rfl, hb1⟩
    have hx1 := x1.call hb1
    obtain ⟨z1, z2, z3, z4⟩ := hx1.two
    go_wp2_with (fail)
    refine bodyPost_ret (results_cell_tmp rfl _ _ w.heap.size 51 _ (0, 0) _ _ rfl rfl (hx1.set2 _ _) Try.underlying51 rfl (by kernel_rfl)) rfl ?_
    exact ⟨rfl, bl_set (bl_set (bl_call hb0 hb1) (Nat.le_refl _) _) (Nat.le_refl _) _⟩
end Go.Proofs.Ytiffgaelndajpaa
