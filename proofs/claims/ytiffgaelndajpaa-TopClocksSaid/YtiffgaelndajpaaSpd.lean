/- Speed: package clock's. -/
import Derived.Test.YtiffgaelndajpaaSlk
import Derived.Test.YtiffgaelndajpaaRat
namespace Go.Proofs.Ytiffgaelndajpaa
open Go.RowKit Go.Shelf
attribute [local go_sem] Oper.semAt_some

theorem ratOf_i (n d : Int) (w : World) (h0 : 0 ≤ n) (hn : n ≤ 1000) (hd : 0 < d) (hd2 : d ≤ 1000) :
    Calls Try.prog 68 #[.int .i64 n, .int .i64 d] w fun e w' => e = .returned (.agg #[.int .i64 (ratio n d).1, .int .i64 (ratio n d).2]) ∧ Below w.heap.size w w' := by
  obtain ⟨n, rfl⟩ := Int.eq_ofNat_of_zero_le h0
  obtain ⟨d, rfl⟩ := Int.eq_ofNat_of_zero_le (show 0 ≤ d by omega)
  exact ratOf_c n d w (by omega) (by omega) (by omega)
theorem rRatio_i (n d : Int) (w : World) (h0 : 0 ≤ n) (hn : n ≤ 1000) (hd : 0 < d) (hd2 : d ≤ 1000) :
    Calls Try.prog 69 #[.int .i64 n, .int .i64 d] w fun e w' => e = .returned (.agg #[.int .i64 (ratio n d).1, .int .i64 (ratio n d).2]) ∧ Below w.heap.size w w' := by
  obtain ⟨n, rfl⟩ := Int.eq_ofNat_of_zero_le h0
  obtain ⟨d, rfl⟩ := Int.eq_ofNat_of_zero_le (show 0 ≤ d by omega)
  exact rRatio_c n d w (by omega) (by omega) (by omega)
theorem mul_small {x y : Int} (h0 : 0 ≤ x) (h1 : x ≤ 1000) (h2 : 0 ≤ y) (h3 : y ≤ 1000) : wrap64 (x * y) = x * y := by
  have a := Int.mul_nonneg h0 h2
  have b := Int.mul_le_mul h1 h3 h2 (show (0 : Int) ≤ 1000 by omega)
  exact IntWalk.wrap64_in _ ⟨by omega, by omega⟩
def speedG (l : List T3) : Int × Int := if validE l = 0 then speedL l else (0, 0)
set_option maxRecDepth 100000 in
set_option maxHeartbeats 4000000 in
theorem Speed_c (A : Option Addr) (l : List T3) (c : Nat) (w : World) (hlen : l.length ≤ 1000) (hr : Rd w A (cellsT l)) :
    Calls Try.prog 40 #[.slice A l.length c] w fun e w' => e = .returned (.tuple #[.agg #[.int .i64 (speedG l).1, .int .i64 (speedG l).2], .int .i64 (validE l)]) ∧ Below w.heap.size w w' := by
  have hb0 : Below w.heap.size w ((w.alloc (.cells #[.slice A l.length c] 22)).alloc (.cells #[.int .i64 0, .int .i64 0] 51)) := bl_alloc (bl_alloc (Below.refl _ _) _) _
  have HV := Lib.hid (validate_c A l c _ hlen (hr.later hb0))
  have x0 : Bx ((w.alloc (.cells #[.slice A l.length c] 22)).alloc (.cells #[.int .i64 0, .int .i64 0] 51)) w.heap.size 22 #[.slice A l.length c] := (Bx.newAt rfl).alloc _
  have x1 : Bx ((w.alloc (.cells #[.slice A l.length c] 22)).alloc (.cells #[.int .i64 0, .int .i64 0] 51)) (w.heap.size + 1) 51 #[.int .i64 0, .int .i64 0] := Bx.newAt (by simp)
  by_cases hv : validE l = 0
  · have hl := validE_ok.1 hv
    have HSG : Hid (speedG l = speedS l strL) := by show _ = _; rw [speedG, if_pos hv]; rfl
    rw [hv] at HV ⊢
    clear hv
    refine (callsIn_wide (n := 9)).1 ?_
    refine callsIn_of_wp_marks Try.func40 rfl trivial ?_ rfl
    simp only [Try.ntmps40, List.size_toArray, List.length_cons, List.length_nil, Nat.reduceAdd, Nat.reduceSub, Array.replicate_succ, Array.replicate_zero, List.push_toArray, List.append_toArray, List.nil_append, List.cons_append]
    gi_wp2_with (fail)
    refine ⟨trivial, ?_⟩
    refine (callsIn_wide.2 HV.out).mono ?_
    rintro en w1 ⟨rfl, hb1⟩
    simp only [World.size_alloc, Nat.add_assoc, Nat.reduceAdd] at *
    have hb01 : Below w.heap.size w w1 := hb0.trans (hb1.mono (by omega))
    have hx0 : Bx w1 w.heap.size 22 #[.slice A l.length c] := (hb1.block _ (by omega)).trans x0
    have hx1 : Bx w1 (w.heap.size + 1) 51 #[.int .i64 0, .int .i64 0] := (hb1.block _ (by omega)).trans x1
    have hs2 := hx1.lt
    clear x0 x1 hb0 hb1 HV
    gi_wp2_with (fail)
    have hy0 := hx0.alloc (.cells #[.int .i64 0, .int .i64 1] 51)
    have hy1 := hx1.alloc (.cells #[.int .i64 0, .int .i64 1] 51)
    have hm2 : Bx (w1.alloc (.cells #[.int .i64 0, .int .i64 1] 51)) w1.heap.size 51 #[.int .i64 0, .int .i64 1] := Bx.new _ _ _
    have hb2 := bl_alloc hb01 (.cells #[.int .i64 0, .int .i64 1] 51)
    have hsz2 : (w1.alloc (.cells #[.int .i64 0, .int .i64 1] 51)).heap.size = w1.heap.size + 1 := by simp
    generalize w1.alloc (.cells #[.int .i64 0, .int .i64 1] 51) = w2 at *
    generalize w1.heap.size = g at *
    clear hx0 hx1
    refine wp_range (n := 9) (gf := 67) (lb := #[]) rfl (enters_of Try.func67 (by kernel_rfl) rfl)
      (stretches_iter w2 (fun _ => False)) (Below.refl _ _) (fun _ h => h.elim) (fun _ _ _ h => by rw [h]; rfl)
      (fun e pre W => ∃ u v, Hid (speedS l pre = (u, v)) ∧ Bx W w.heap.size 22 #[.slice A l.length c] ∧ Bx W (w.heap.size + 1) 51 #[.int .i64 0, .int .i64 0] ∧ Bx W g 51 #[.int .i64 u, .int .i64 v] ∧ Below w.heap.size w W)
      (fun _ _ _ _ => False) ?hI (fun _ _ _ _ _ h _ => h.elim) ?h0
      (fun x a' W => a' = { tmps := #[.slice A l.length c, .pointer (some ⟨w.heap.size, 0, none⟩), .pointer (some ⟨w.heap.size + 1, 0, none⟩), .int .i64 0, .int .i64 0, .pointer (some ⟨g, 0, none⟩), .int .i64 x.1, .int .i64 x.2, undef, .slice A l.length c, .int .i64 0, .int .i64 0, .bool false, undef, undef,
        .agg #[.int .i64 0, .int .i64 1], .int .i64 x.1, .int .i64 x.2, undef, undef, undef, undef, undef, undef, undef, undef, undef, undef, undef, undef, undef, undef, undef, undef, undef, undef, undef, undef, undef], defers := [] })
      ?hAx ?assign ?body ?done ?stop
    case hI =>
      rintro e s X Y ⟨u, v, hm, h0, h1, h2, hb⟩ hmod
      exact ⟨u, v, hm, h0.mod hmod (fun h => by have := h.1; omega), h1.mod hmod (fun h => by have := h.1; omega), h2.mod hmod (fun h => by have := h.1; omega), hb.trans (hmod.below hb.size (fun k hk h => by have := h.1; omega))⟩
    case h0 =>
      intro e W' hb _ _
      exact ⟨0, 1, rfl, hy0.call hb, hy1.call hb, hm2.call hb, bl_call hb2 hb⟩
    case hAx =>
      rintro x a' X Y l' o rfl _ _ _
      rfl
    case assign =>
      rintro l' e pre x vs W k he hes _ rfl hk
      gi_wp2
      exact hk _ _ (Mod.refl _ W) rfl
    case body =>
      rintro l' e pre x a' W he hes ⟨t, hpre⟩ ⟨u, v, hm, h0, h1, h2, hb⟩ rfl
      have hxm := mem_strL.1 (show x ∈ strL by rw [hpre]; simp)
      have his := speed_is hl (fun s hs => mem_strL.1 (show s ∈ strL by rw [hpre]; simp [hs])) (ss := pre)
      rw [hm.out] at his
      have u0 : 0 ≤ u := his.n0
      have u1 : u ≤ 480 := his.n1
      have v0 : 0 < v := his.d0
      have v1 : v ≤ 60 := his.d1
      have hdr := dem_range hl x.1 x.2
      have HS := Lib.hid (speedS_snoc l pre x)
      rw [hm.out] at HS
      have HD := Lib.hid (demandOf_c A l c x.1 x.2 W hlen hl.jobs (hr.later hb))
      have HSS : Hid (spStep l (u, v) x = if u * (x.2 - x.1) < dem l x.1 x.2 * v then ratio (dem l x.1 x.2) (x.2 - x.1) else (u, v)) := rfl
      rw [HSS.out] at HS
      obtain ⟨xa, xb⟩ := x
      simp only [] at hxm hdr HS HD
      obtain ⟨y1, y2⟩ := h0.one
      obtain ⟨q0, q1, q2⟩ := hxm
      obtain ⟨d0, d1⟩ := hdr
      clear hpre HSS his
      generalize dem l xa xb = D at *
      have p1 : wrap64 (D * v) = D * v := mul_small d0 (by omega) (by omega) (by omega)
      have p2 : wrap64 (u * (xb - xa)) = u * (xb - xa) := mul_small u0 (by omega) (by omega) (by omega)
      have HR : Hid (u * (xb - xa) < D * v → 0 < D) := fun h => by
        rcases Int.lt_or_le 0 D with q | q
        · exact q
        · have a := Int.mul_nonneg u0 (show 0 ≤ xb - xa by omega)
          have b : D = 0 := by omega
          rw [b, Int.zero_mul] at h; omega
      gi_wp2_with (fail)
      refine ⟨trivial, ?_⟩
      refine (CallsIn.inRound l' (callsIn_wide.2 HD.out)).mono ?_
      rintro en w4 ⟨rfl, hb4⟩
      have h04 := h0.call hb4
      have h14 := h1.call hb4
      have h24 := h2.call hb4
      have hb04 := bl_call hb hb4
      clear y1 y2 h0 h1 h2
      obtain ⟨z1, z2, z3, z4⟩ := h24.two
      by_cases hD : u * (xb - xa) < D * v
      · have HS2 := HS.out
        rw [if_pos hD] at HS2
        have HS3 := Lib.hid HS2
        have hDp := HR.out hD
        have HRT := fun w => Lib.hid (ratOf_i D (xb - xa) w d0 (by omega) (by omega) (by omega))
        generalize ratio D (xb - xa) = r at *
        obtain ⟨r1, r2⟩ := r
        simp only [] at HRT
        clear HS HS2 HR
        gi_wp2_with (fail)
        refine ⟨trivial, ?_⟩
        refine (CallsIn.inRound l' (callsIn_wide.2 (HRT _).out)).mono ?_
        rintro en w5 ⟨rfl, hb5⟩
        have h05 := h04.call hb5
        have h15 := h14.call hb5
        have h25 := h24.call hb5
        have hb05 := bl_call hb04 hb5
        clear z1 z2 z3 z4 h04 h14 h24
        obtain ⟨z1, z2, z3, z4⟩ := h25.two
        gi_wp2_with (fail)
        refine ⟨(((Mod.of_call hb4).call hb5).setCell (.inr ⟨fun h => h, fun h => by have := h.1; omega⟩) _).setCell (.inr ⟨fun h => h, fun h => by have := h.1; omega⟩) _, r1, r2, HS3.out, (h05.far (by omega) _).far (by omega) _, (h15.far (by omega) _).far (by omega) _, h25.set2 _ _, bl_set (bl_set hb05 (by omega) _) (by omega) _⟩
      · have HS2 := HS.out
        rw [if_neg hD] at HS2
        have HS3 := Lib.hid HS2
        clear HS HS2 HR
        gi_wp2_with (fail)
        exact ⟨Mod.of_call hb4, u, v, HS3.out, h04, h14, h24, hb04⟩
    case stop =>
      intro D e c pre W _ _ _ _ h
      exact h.elim
    case done =>
      rintro D e W hD hDe hes ⟨u, v, hm, h0, h1, h2, hb⟩ hK
      obtain ⟨z1, z2, z3, z4⟩ := h2.two
      obtain ⟨y1, y2, y3, y4⟩ := h1.two
      gi_wp2
      have hne : w.heap.size + 1 ≠ D := by omega
      have hK' : ((W.setCell ⟨w.heap.size + 1, 0, none⟩ (.int .i64 u)).setCell ⟨w.heap.size + 1, 1, none⟩ (.int .i64 v)).heap[D]? = some (.deferred (some [])) :=
        ((Below.heap_setCell _ _ _ _ (Ne.symm hne)).trans (Below.heap_setCell _ _ _ _ (Ne.symm hne))).trans hK
      refine ⟨by simp, .inl ⟨_, _, rfl, run_takeDeferred hK', ?_⟩⟩
      obtain ⟨hz1, hz2, hz3, hz4⟩ := ((h1.set2 (.int .i64 u) (.int .i64 v)).put hne (.deferred none)).two
      exact ⟨.tuple #[.agg #[.int .i64 u, .int .i64 v], .int .i64 0], by simp [results, Try.f40, go_sem, hz1, hz2], by rw [HSG.out, hm.out], bl_put (bl_set (bl_set hb (by omega) _) (by omega) _) (by omega) _⟩
  · have HB : speedG l = (0, 0) := by rw [speedG, if_neg hv]
    have hv' : (validE l != 0) = true := by simpa using hv
    rw [HB]
    clear HB
    generalize validE l = ev at *
    refine (callsIn_wide (n := 9)).1 ?_
    refine callsIn_of_wp_marks Try.func40 rfl trivial ?_ rfl
    simp only [Try.ntmps40, List.size_toArray, List.length_cons, List.length_nil, Nat.reduceAdd, Nat.reduceSub, Array.replicate_succ, Array.replicate_zero, List.push_toArray, List.append_toArray, List.nil_append, List.cons_append]
    gi_wp2_with (fail)
    refine ⟨trivial, ?_⟩
    refine (callsIn_wide.2 HV.out).mono ?_
    rintro en w1 ⟨rfl, hb1⟩
    simp only [World.size_alloc, Nat.add_assoc, Nat.reduceAdd] at *
    have hb01 : Below w.heap.size w w1 := hb0.trans (hb1.mono (by omega))
    have hx1 : Bx w1 (w.heap.size + 1) 51 #[.int .i64 0, .int .i64 0] := (hb1.block _ (by omega)).trans x1
    clear x0 x1 hb0 hb1 HV
    obtain ⟨a1, a2, a3, a4⟩ := hx1.two
    gi_wp2_with (fail)
    obtain ⟨z1, z2, z3, z4⟩ := (hx1.set2 (.int .i64 0) (.int .i64 0)).two
    exact ⟨.tuple #[.agg #[.int .i64 0, .int .i64 0], .int .i64 ev], by simp [results, Try.f40, go_sem, z1, z2], rfl, bl_set (bl_set hb01 (by omega) _) (by omega) _⟩
end Go.Proofs.Ytiffgaelndajpaa
