/- Slack: package clock's. -/
import Derived.Test.YtiffgaelndajpaaStr
namespace Go.Proofs.Ytiffgaelndajpaa
open Go.RowKit Go.Shelf
attribute [local go_sem] Oper.semAt_some

def slackG (l : List T3) : Int := if validE l = 0 then slackL l else 0
def someG (l : List T3) : Bool := if validE l = 0 then decide (0 < l.length) else false
set_option maxRecDepth 100000 in
set_option maxHeartbeats 4000000 in
theorem Slack_c (A : Option Addr) (l : List T3) (c : Nat) (w : World) (hlen : l.length ≤ 1000) (hr : Rd w A (cellsT l)) :
    Calls Try.prog 38 #[.slice A l.length c] w fun e w' => e = .returned (.tuple #[.int .i64 (slackG l), .bool (someG l), .int .i64 (validE l)]) ∧ Below w.heap.size w w' := by
  have hb0 : Below w.heap.size w (w.alloc (.cells #[.slice A l.length c] 22)) := bl_alloc (Below.refl _ _) _
  have HV := Lib.hid (validate_c A l c _ hlen (hr.later hb0))
  by_cases hv : validE l = 0
  · have hl := validE_ok.1 hv
    have HB1 : slackG l = slackL l := by rw [slackG, if_pos hv]
    have HB2 : someG l = decide (0 < l.length) := by rw [someG, if_pos hv]
    rw [hv] at HV
    rw [HB1, HB2, hv]
    clear HB1 HB2 hv
    by_cases hz : l.length = 0
    · have HL : Hid (slackL l = 0) := by show _ = _; rw [slackL, if_pos hz]
      have hz0 : ((l.length : Int) == 0) = true := by simp [hz]
      have HZ := Lib.hid hz
      have x0 : Bx (w.alloc (.cells #[.slice A l.length c] 22)) w.heap.size 22 #[.slice A l.length c] := Bx.new _ _ _
      clear hz
      go_enter Try.func38, Try.ntmps38
      go_wp2_with (fail)
      refine HV.out.mono ?_
      rintro e w1 ⟨rfl, hb1⟩
      obtain ⟨x1, x2⟩ := (x0.call hb1).one
      go_wp2_with (fail)
      go_ret3
      exact ⟨by rw [HL.out, HZ.out]; rfl, bl_call hb0 hb1⟩
    · have HL : Hid (slackL l = slackS l strL) := by show _ = _; rw [slackL, if_neg hz]
      have hz0 : ((l.length : Int) == 0) = false := by rw [beq_eq_false_iff_ne]; omega
      have HP : Hid (decide (0 < l.length) = true) := decide_eq_true (by omega)
      rw [HL.out, HP.out]
      clear HP HL hz
      have x0 : Bx (w.alloc (.cells #[.slice A l.length c] 22)) w.heap.size 22 #[.slice A l.length c] := Bx.new _ _ _
      refine (callsIn_wide (n := 9)).1 ?_
      refine callsIn_of_wp_marks Try.func38 rfl trivial ?_ rfl
      simp only [Try.ntmps38, List.size_toArray, List.length_cons, List.length_nil, Nat.reduceAdd, Nat.reduceSub, Array.replicate_succ, Array.replicate_zero, List.push_toArray, List.append_toArray, List.nil_append, List.cons_append]
      gi_wp2_with (fail)
      refine ⟨trivial, ?_⟩
      refine (callsIn_wide.2 HV.out).mono ?_
      rintro en w1 ⟨rfl, hb1⟩
      have hx1 := x0.call hb1
      obtain ⟨x1, x2⟩ := hx1.one
      have hb01 := bl_call hb0 hb1
      gi_wp2_with (fail)
      have hx2 := hx1.alloc (.cells #[.int .i64 60] 3)
      have hm2 : Bx (w1.alloc (.cells #[.int .i64 60] 3)) w1.heap.size 3 #[.int .i64 60] := Bx.new _ _ _
      have hb2 := bl_alloc hb01 (.cells #[.int .i64 60] 3)
      have hs2 : (w1.alloc (.cells #[.int .i64 60] 3)).heap.size = w1.heap.size + 1 := by simp
      have hgw := hb01.size
      have hgx := hx1.lt
      generalize w1.alloc (.cells #[.int .i64 60] 3) = w2 at *
      generalize w1.heap.size = g at *
      clear x1 x2 x0 hx1 hb0 HV
      refine wp_range (n := 9) (gf := 67) (lb := #[]) rfl (enters_of Try.func67 (by kernel_rfl) rfl)
        (stretches_iter w2 (fun _ => False)) (Below.refl _ _) (fun _ h => h.elim) (fun _ _ _ h => by rw [h]; rfl)
        (fun e pre W => ∃ m, Hid (slackS l pre = m) ∧ Bx W w.heap.size 22 #[.slice A l.length c] ∧ Bx W g 3 #[.int .i64 m] ∧ Below w.heap.size w W)
        (fun _ _ _ _ => False) ?hI (fun _ _ _ _ _ h _ => h.elim) ?h0
        (fun x a' W => a' = { tmps := #[.slice A l.length c, .pointer (some ⟨w.heap.size, 0, none⟩), .int .i64 0, .bool false, .int .i64 0, .int .i64 0, .pointer (some ⟨g, 0, none⟩), .int .i64 x.1, .int .i64 x.2, undef, .slice A l.length c, .int .i64 0, .int .i64 0, .bool false, undef, .slice A l.length c,
          .int .i64 l.length, .bool false, .int .i64 x.1, .int .i64 x.2, undef, undef, undef, undef, undef, undef, undef, undef, undef, undef, undef, undef, undef, undef], defers := [] })
        ?hAx ?assign ?body ?done ?stop
      case hI =>
        rintro e s X Y ⟨m, hm, h0, h1, hb⟩ hmod
        exact ⟨m, hm, h0.mod hmod (fun h => by have := h.1; omega), h1.mod hmod (fun h => by have := h.1; omega), hb.trans (hmod.below hb.size (fun k hk h => by have := h.1; omega))⟩
      case h0 =>
        intro e W' hb _ _
        exact ⟨60, rfl, hx2.call hb, hm2.call hb, bl_call hb2 hb⟩
      case hAx =>
        rintro x a' X Y l' o rfl _ _ _
        rfl
      case assign =>
        rintro l' e pre x vs W k he hes _ rfl hk
        gi_wp2
        exact hk _ _ (Mod.refl _ W) rfl
      case body =>
        rintro l' e pre x a' W he hes ⟨t, hpre⟩ ⟨m, hm, h0, h1, hb⟩ rfl
        have hxm := mem_strL.1 (show x ∈ strL by rw [hpre]; simp)
        have hrg := slackS_range hl pre (fun s hs => mem_strL.1 (show s ∈ strL by rw [hpre]; simp [hs]))
        have hdr := dem_range hl x.1 x.2
        have HS := Lib.hid (slackS_snoc l pre x)
        rw [hm.out] at hrg HS
        have HD := Lib.hid (demandOf_c A l c x.1 x.2 W hlen hl.jobs (hr.later hb))
        have HSS : Hid (slStep l m x = if 0 < dem l x.1 x.2 then min m (x.2 - x.1 - dem l x.1 x.2) else m) := rfl
        rw [HSS.out] at HS
        obtain ⟨xa, xb⟩ := x
        simp only [] at hxm hdr HS HD
        obtain ⟨y1, y2⟩ := h0.one
        obtain ⟨z1, z2⟩ := h1.one
        obtain ⟨r0, r1⟩ := hrg
        obtain ⟨q0, q1, q2⟩ := hxm
        obtain ⟨d0, d1⟩ := hdr
        clear hpre HSS
        generalize dem l xa xb = D at *
        gi_wp2_with (fail)
        refine ⟨trivial, ?_⟩
        refine (CallsIn.inRound l' (callsIn_wide.2 HD.out)).mono ?_
        rintro en w4 ⟨rfl, hb4⟩
        have h04 := h0.call hb4
        have h14 := h1.call hb4
        have hb04 := bl_call hb hb4
        clear y1 y2 z1 z2 h0 h1
        obtain ⟨z1, z2⟩ := h14.one
        by_cases hD : 0 < D
        · have HS2 := HS.out
          rw [if_pos hD] at HS2
          have HS3 := Lib.hid HS2
          clear HS HS2
          gi_wp2_with (fail)
          all_goals
            refine ⟨(Mod.of_call hb4).setCell (.inr ⟨fun h => h, fun h => by have := h.1; omega⟩) _, _, ?_, h04.far (by omega) _, h14.set1 _, bl_set hb04 (by omega) _⟩
            show _ = _
            rw [HS3.out]
            omega
        · have HS2 := HS.out
          rw [if_neg hD] at HS2
          have HS3 := Lib.hid HS2
          clear HS HS2
          gi_wp2_with (fail)
          exact ⟨Mod.of_call hb4, m, HS3.out, h04, h14, hb04⟩
      case stop =>
        intro D e c pre W _ _ _ _ h
        exact h.elim
      case done =>
        rintro D e W hD hDe hes ⟨m, hm, h0, h1, hb⟩ hK
        obtain ⟨z1, z2⟩ := h1.one
        gi_wp2
        refine ⟨by simp, .inl ⟨_, _, rfl, run_takeDeferred hK, ?_⟩⟩
        exact ⟨.tuple #[.int .i64 m, .bool true, .int .i64 0], by simp [results, Try.f38, go_sem], by rw [hm.out], bl_put hb (by omega) _⟩
  · have HB1 : slackG l = 0 := by rw [slackG, if_neg hv]
    have HB2 : someG l = false := by rw [someG, if_neg hv]
    have hv' : (validE l != 0) = true := by simpa using hv
    rw [HB1, HB2]
    clear HB1 HB2
    generalize validE l = ev at *
    go_enter Try.func38, Try.ntmps38
    go_wp2_with (fail)
    refine HV.out.mono ?_
    rintro e w1 ⟨rfl, hb1⟩
    go_wp2_with (fail)
    go_ret3
    exact ⟨rfl, bl_call hb0 hb1⟩
end Go.Proofs.Ytiffgaelndajpaa
