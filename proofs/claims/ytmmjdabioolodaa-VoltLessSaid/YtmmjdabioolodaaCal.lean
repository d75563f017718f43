/- The calmest voltages of a wish: package volt's contract. -/
import Derived.Test.YtmmjdabioolodaaMak
import Derived.Test.YtmmjdabioolodaaDef
import Derived.Test.YtmmjdabioolodaaJmp
namespace Go.Proofs.Ytmmjdabioolodaa
open Go.RowKit Go.Shelf
attribute [local go_sem] Oper.semAt_some

theorem calm_step (pre : List (List Int)) (x : List Int) : calmF (pre ++ [x]) = if (!(calmF pre).2 || decide (sizeL x < (calmF pre).1)) = true then (sizeL x, true) else calmF pre := calmF_snoc _ _
theorem calmF_range {pre : List (List Int)} (h : ∀ v ∈ pre, sizeL v ≤ 3) : 0 ≤ (calmF pre).1 ∧ (calmF pre).1 ≤ 3 := by
  rw [calm_least pre h]
  split
  · decide
  · exact ⟨leastF_pos _, (leastF_le _).1⟩
set_option maxRecDepth 100000 in
set_option maxHeartbeats 4000000 in
theorem Calmest_c (A B : Option Addr) (R : Rows) (g : List (List Int)) (l : List Int) (cap cap' : Nat) (w : World) (hl : Brief g) (hl' : l.length ≤ 1000) (hr : RT w A R g) (hs : Rd w B (ints l)) :
    Calls Try.prog 33 #[.slice A g.length cap, .slice B l.length cap'] w fun e w' => e = .returned (.tuple #[.int .i64 (calmG g l).1, .bool (calmG g l).2, .int .i64 (errB (wayB g l))]) ∧ Below w.heap.size w w' := by
  have HV := Lib.hid (validateWish_c A B R g l cap cap' w hl hl' hr hs)
  change Hid (Calls _ _ _ _ fun e w' => e = .returned (.int .i64 (errB (wayB g l))) ∧ _) at HV
  by_cases hW : wayB g l = true
  · obtain ⟨hg, hlw⟩ := wayB_iff hW
    have HCG : Hid (calmF (makersL g l) = calmG g l) := by show _ = _; unfold calmG; rw [if_pos hW]; exact calm_eq g l
    rw [hW] at HV ⊢
    generalize calmG g l = res at *
    clear hlw hW
    refine (callsIn_wide (n := 9)).1 ?_
    refine callsIn_of_wp_marks Try.func33 rfl trivial ?_ rfl
    simp only [Try.ntmps33, List.size_toArray, List.length_cons, List.length_nil, Nat.reduceAdd, Nat.reduceSub, Array.replicate_succ, Array.replicate_zero, List.push_toArray, List.append_toArray, List.nil_append, List.cons_append]
    gi_wp2_with (fail)
    refine ⟨trivial, ?_⟩
    refine (callsIn_wide.2 HV.out).mono ?_
    rintro en w1 ⟨rfl, hb1⟩
    rw [errB_t]
    gi_wp2_with (fail)
    refine ⟨trivial, ?_⟩
    refine (callsIn_wide.2 (makers_c _ _ _ _ _ _ _)).mono ?_
    rintro en w2 ⟨rfl, hw2⟩
    have hs2 : w2.heap.size = w1.heap.size + 4 := by rw [← hw2]; simp
    have hb2 : Below w1.heap.size w1 w2 := by rw [← hw2]; exact bl_alloc (bl_alloc (bl_alloc (bl_alloc (Below.refl _ _) _) _) _) _
    have x0 : Bx w2 w1.heap.size 3 #[.int .i64 0] := by rw [← hw2]; exact (((Bx.new w1 _ _).alloc _).alloc _).alloc _
    have xb : Bx w2 (w1.heap.size + 1) 4 #[.bool false] := by rw [← hw2]; exact ((Bx.newAt (by simp)).alloc _).alloc _
    have x1 : Bx w2 (w1.heap.size + 2) 22 #[.slice A g.length cap] := by rw [← hw2]; exact (Bx.newAt (by simp)).alloc _
    have x2 : Bx w2 (w1.heap.size + 3) 23 #[.slice B l.length cap'] := by rw [← hw2]; exact Bx.newAt (by simp)
    clear hw2
    simp only [World.size_alloc] at *
    gi_wp2_with (fail)
    have hsw := hb1.size
    have hb02 := bl_call hb1 hb2
    generalize hN : w1.heap.size = N at *
    refine wp_range (n := 9) (gf := 91) (lb := #[.pointer (some ⟨N + 1 + 1, 0, none⟩), .pointer (some ⟨N + 1 + 1 + 1, 0, none⟩)]) rfl (enters_of Try.func91 (by kernel_rfl) rfl)
      (makers_iter w w2 A B R g l cap cap' (N + 2) (N + 3) (fun k => k < w.heap.size ∨ k = N + 2 ∨ k = N + 3) hg hb02 hr (hs.later hb02) (by omega) (by omega) x1.one.1 x2.one.1 (fun k h => .inl h) (.inr (.inl rfl)) (.inr (.inr rfl)) (by rintro k (h | h | h) <;> omega) (fun a e1 h => .inl (hs.blk a e1 h)))
      (Below.refl _ _) (by rintro k (h | h | h) <;> omega) (by rintro e x vs W' ⟨A', c, rfl, _⟩; rfl)
      (fun e pre X => Bx X N 3 #[.int .i64 (calmF pre).1] ∧ Bx X (N + 1) 4 #[.bool (calmF pre).2] ∧ Below w.heap.size w X)
      (fun _ _ _ _ => False) ?hI (fun _ _ _ _ _ h _ => h.elim) ?h0
      (fun e x a' X => ∃ A' c, X.ownsRow e 3 1 (.slice A' x.length c) x.length (ints x) ∧ a' = { tmps := #[.slice A g.length cap, .slice B l.length cap', undef, undef, .int .i64 0, .bool false, .int .i64 0, .int .i64 0, .pointer (some ⟨N, 0, none⟩), .pointer (some ⟨N + 1, 0, none⟩), .slice A' x.length c, undef, .slice A g.length cap, .slice B l.length cap', .int .i64 0, .int .i64 0, .bool false, undef, .slice A g.length cap, .slice B l.length cap',
        .func (.func 91) #[] #[.pointer (some ⟨N + 1 + 1, 0, none⟩), .pointer (some ⟨N + 1 + 1 + 1, 0, none⟩)], .slice A' x.length c, undef, undef, undef, undef, undef, undef, undef, undef, undef, undef, undef, undef], defers := [] })
      ?hAx ?assign ?body ?done ?stop
    case hI =>
      rintro e s X Y ⟨h0, h1, hb⟩ hm
      exact ⟨h0.mod hm (fun h => by have := h.1; omega), h1.mod hm (fun h => by have := h.1; omega), hb.trans (hm.below hb.size (fun k hk h => by have := h.1; omega))⟩
    case h0 =>
      intro e X hb _ _
      exact ⟨x0.call hb, xb.call hb, bl_call hb02 hb⟩
    case hAx =>
      rintro e x a' X Y l' o ⟨A', c, hown, rfl⟩ hl' ⟨r, hr'⟩ rfl
      exact ⟨A', c, own_loop hown hr' o, rfl⟩
    case assign =>
      rintro l' e pre x vs X k he hes _ ⟨A', c, rfl, hown⟩ hk
      gi_wp2
      exact hk _ _ (Mod.refl _ X) ⟨A', c, hown, rfl⟩
    case body =>
      rintro l' e pre x a' X he hes ⟨t, hpre⟩ ⟨h0, h1, hb⟩ ⟨A', c, hown, rfl⟩
      have hok : OkV x (wires g) 3 := (mem_makers.1 (show x ∈ makersL g l by rw [hpre]; simp)).1
      have hrg := calmF_range (pre := pre) (fun v hv => makers_size v (show v ∈ makersL g l by rw [hpre]; simp [hv]))
      have hw3 := hg.wrs
      have HZ := Lib.hid (size_c A' x c X (by have := hok.len; omega) (small_get hok (by decide)) (own_rd hown).1)
      have HS := Lib.hid (calm_step pre x)
      obtain ⟨y0, z0⟩ := h0.one
      obtain ⟨y1, z1⟩ := h1.one
      generalize calmF pre = s at *
      obtain ⟨m, f⟩ := s
      simp only [] at y0 y1 hrg h0 h1
      generalize sizeL x = sz at *
      clear hok hpre
      gi_wp2_with (fail)
      refine ⟨trivial, ?_⟩
      refine (CallsIn.inRound l' (callsIn_wide.2 HZ.out)).mono ?_
      rintro en w4 ⟨rfl, hb4⟩
      have h04 := h0.call hb4
      have h14 := h1.call hb4
      obtain ⟨y0, z0⟩ := h04.one
      obtain ⟨y1, z1⟩ := h14.one
      have hb04 := bl_call hb hb4
      have hm4 : Mod (fun k => ¬ (k < w.heap.size ∨ k = N + 2 ∨ k = N + 3) ∧ ¬ zone w2.heap.size e k) X w4 := Mod.of_call hb4
      have hsX : N + 4 ≤ w4.heap.size := by have := hb4.size; omega
      have hm5 : ∀ u v, Mod (fun k => ¬ (k < w.heap.size ∨ k = N + 2 ∨ k = N + 3) ∧ ¬ zone w2.heap.size e k) X ((w4.setCell ⟨N, 0, none⟩ u).setCell ⟨N + 1, 0, none⟩ v) := fun u v => (hm4.setCell (.inr ⟨by rintro (h | h | h) <;> omega, fun h => by have := h.1; omega⟩) u).setCell (.inr ⟨by rintro (h | h | h) <;> omega, fun h => by have := h.1; omega⟩) v
      have hb5 : ∀ u v, Below w.heap.size w ((w4.setCell ⟨N, 0, none⟩ u).setCell ⟨N + 1, 0, none⟩ v) := fun u v => bl_set (bl_set hb04 hsw u) (by omega) v
      have k0 : ∀ u v, Bx ((w4.setCell ⟨N, 0, none⟩ u).setCell ⟨N + 1, 0, none⟩ v) N 3 #[u] := fun u v => (h04.set1 u).far (by omega) v
      have k1 : ∀ u v, Bx ((w4.setCell ⟨N, 0, none⟩ u).setCell ⟨N + 1, 0, none⟩ v) (N + 1) 4 #[v] := fun u v => (h14.far (by omega) u).set1 v
      have HM4 := Lib.hid hm4
      have HM5 := Lib.hid hm5
      clear hm4 hm5 h0 h1 HZ hb4
      cases f with
      | false =>
        have HS2 : Hid (calmF (pre ++ [x]) = (sz, true)) := by show _ = _; rw [HS.out]; rfl
        gi_wp2_with (fail)
        exact ⟨by first | exact HM5.out _ _ | (rw [hs2] at HM5; exact HM5.out _ _), by rw [HS2.out]; exact k0 _ _, by rw [HS2.out]; exact k1 _ _, hb5 _ _⟩
      | true =>
        by_cases hlt : sz < m
        · have HS2 : Hid (calmF (pre ++ [x]) = (sz, true)) := by show _ = _; rw [HS.out, if_pos (by simp [hlt])]
          gi_wp2_with (fail)
          exact ⟨by first | exact HM5.out _ _ | (rw [hs2] at HM5; exact HM5.out _ _), by rw [HS2.out]; exact k0 _ _, by rw [HS2.out]; exact k1 _ _, hb5 _ _⟩
        · have HS2 : Hid (calmF (pre ++ [x]) = (m, true)) := by show _ = _; rw [HS.out, if_neg (by simp [hlt])]
          gi_wp2_with (fail)
          exact ⟨by first | exact HM4.out | (rw [hs2] at HM4; exact HM4.out), by rw [HS2.out]; exact h04, by rw [HS2.out]; exact h14, hb04⟩
    case stop =>
      intro D e c pre X _ _ _ _ h
      exact h.elim
    case done =>
      rintro D e X hD hDe hes ⟨h0, h1, hb⟩ hK
      rw [HCG.out] at h0 h1
      obtain ⟨y0, z0⟩ := h0.one
      obtain ⟨y1, z1⟩ := h1.one
      obtain ⟨m, f⟩ := res
      simp only [] at y0 y1
      have hmix : Try.prog.follows .mixedOrders = true := by kernel_rfl
      gi_wp2_with (fail)
      gi_big_quiet_th_o (fail)
      all_goals
        gi_wp2_with (fail)
        refine ⟨by simp, .inl ⟨_, _, rfl, run_takeDeferred (w := X.drewN nq) hK, ?_⟩⟩
        exact ⟨_, results_tmp3 rfl _ _ _, rfl, bl_put (below_drewN hb _) (by omega) _⟩
  · have hW' : wayB g l = false := by simpa using hW
    have hz : calmG g l = (0, false) := by unfold calmG; rw [if_neg hW]
    rw [hW'] at HV ⊢
    rw [hz]
    clear hz
    go_enter Try.func33, Try.ntmps33
    go_wp2_with (fail)
    refine HV.out.mono ?_
    rintro e w1 ⟨rfl, hb1⟩
    rw [errB_f]
    go_wp2_with (fail)
    go_ret3
    exact ⟨rfl, hb1⟩
end Go.Proofs.Ytmmjdabioolodaa
