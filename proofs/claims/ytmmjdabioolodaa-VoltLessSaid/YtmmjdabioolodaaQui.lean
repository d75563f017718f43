/- The first voltages that make no field: package volt's contract. -/
import Derived.Test.YtmmjdabioolodaaMak
import Derived.Test.YtmmjdabioolodaaDef
import Derived.Test.YtmmjdabioolodaaJmp
namespace Go.Proofs.Ytmmjdabioolodaa
open Go.RowKit Go.Shelf
attribute [local go_sem] Oper.semAt_some
set_option maxRecDepth 100000 in
set_option maxHeartbeats 4000000 in
theorem Quiet_c (A : Option Addr) (R : Rows) (g : List (List Int)) (cap : Nat) (w : World) (hl : Brief g) (hr : RT w A R g) :
    Calls Try.prog 31 #[.slice A g.length cap] w (OutS (quietG g) (errB (okG g)) w) := by
  have hbb0 : Below w.heap.size w (((w.alloc (.cells #[.slice none 0 0] 23)).alloc (.cells #[.bool false] 4)).alloc (.cells #[.int .i64 0] 27)) := bl_alloc (bl_alloc (bl_alloc (Below.refl _ _) _) _) _
  have u0 : Bx (((w.alloc (.cells #[.slice none 0 0] 23)).alloc (.cells #[.bool false] 4)).alloc (.cells #[.int .i64 0] 27)) w.heap.size 23 #[.slice none 0 0] := ((Bx.newAt rfl).alloc _).alloc _
  have u1 : Bx (((w.alloc (.cells #[.slice none 0 0] 23)).alloc (.cells #[.bool false] 4)).alloc (.cells #[.int .i64 0] 27)) (w.heap.size + 1) 4 #[.bool false] := (Bx.newAt (by simp)).alloc _
  have u2 : Bx (((w.alloc (.cells #[.slice none 0 0] 23)).alloc (.cells #[.bool false] 4)).alloc (.cells #[.int .i64 0] 27)) (w.heap.size + 2) 27 #[.int .i64 0] := Bx.newAt (by simp)
  have hs0 : (((w.alloc (.cells #[.slice none 0 0] 23)).alloc (.cells #[.bool false] 4)).alloc (.cells #[.int .i64 0] 27)).heap.size = w.heap.size + 3 := by simp
  have HV := Lib.hid (fun w1 (hb : Below w.heap.size w w1) => Validate_c A R g cap w1 hl (hr.later hb))
  change Hid (∀ w1, Below w.heap.size w w1 → Calls _ _ _ w1 fun e w' => e = .returned (.int .i64 (errB (okG g))) ∧ _) at HV
  have HG : Hid (quietG g = if okG g = true then quietL g else none) := rfl
  have HFO : Hid (∀ (o : Option (List Int)) (E : Int) (A' : Option Addr) (c' : Nat) (w' : World), quietG g = o → errB (okG g) = E → Rd w' A' (ints (found o)) → Below w.heap.size w w' → OutS (quietG g) (errB (okG g)) w (.returned (.tuple #[.slice A' (found o).length c', .bool o.isSome, .int .i64 E])) w') := fun o E A' c' w' h1 h2 h3 h4 => by rw [h1, h2]; exact ⟨A', c', rfl, h3, h4⟩
  generalize OutS (quietG g) (errB (okG g)) w = FO at HFO ⊢
  by_cases hW : okG g = true
  · have hg := okG_iff.1 hW
    rw [hW] at HV HG
    rw [if_pos rfl] at HG
    have HE : Hid (errB (okG g) = 0) := by show _ = _; rw [hW]; rfl
    have hpt := hg.pts
    have HMK := Lib.hid (make_ints g.length (by omega))
    have HQL : Hid (quietL g = (makersL g (List.replicate g.length 0)).find? fun v => decide (0 < sizeL v)) := rfl
    clear hW
    refine (callsIn_wide (n := 9)).1 ?_
    refine callsIn_of_wp_marks Try.func31 rfl trivial ?_ rfl
    simp only [Try.ntmps31, List.size_toArray, List.length_cons, List.length_nil, Nat.reduceAdd, Nat.reduceSub, Array.replicate_succ, Array.replicate_zero, List.push_toArray, List.append_toArray, List.nil_append, List.cons_append]
    gi_wp2_with (fail)
    refine ⟨trivial, ?_⟩
    refine (callsIn_wide.2 (HV.out _ hbb0)).mono ?_
    rintro en w1 ⟨rfl, hb1⟩
    rw [errB_t]
    replace u0 := u0.call hb1
    replace u1 := u1.call hb1
    replace u2 := u2.call hb1
    have hb01 := bl_call hbb0 hb1
    have hs1 := hb1.size
    rw [hs0] at hs1
    clear hb1 hbb0 hs0
    obtain ⟨cs, hmk, hcs⟩ := HMK.out w1
    have hR0 : Row (w1.alloc (.cells cs 3)) w1.heap.size (List.replicate g.length 0) := by rw [hcs]; exact Bx.new w1 _ _
    have hbm := bl_alloc (Below.refl w1.heap.size w1) (.cells cs 3)
    have hs1m : (w1.alloc (.cells cs 3)).heap.size = w1.heap.size + 1 := by simp
    clear hcs
    gi_wp2_with (fail)
    refine ⟨trivial, ?_⟩
    refine (callsIn_wide.2 (makers_c _ _ _ _ _ _ _)).mono ?_
    rintro en w2 ⟨rfl, hw2⟩
    have hs2 : w2.heap.size = w1.heap.size + 3 := by rw [← hw2]; simp
    have hb2 : Below w1.heap.size w1 w2 := by rw [← hw2]; exact bl_alloc (bl_alloc hbm _) _
    have hR2 : Row w2 w1.heap.size (List.replicate g.length 0) := by rw [← hw2]; exact (hR0.alloc _).alloc _
    have x1 : Bx w2 (w1.heap.size + 1) 22 #[.slice A g.length cap] := by rw [← hw2]; exact (Bx.newAt (by simp)).alloc _
    have x2 : Bx w2 (w1.heap.size + 2) 23 #[.slice (some ⟨w1.heap.size, 0, none⟩) g.length g.length] := by rw [← hw2]; exact Bx.newAt (by simp)
    clear hw2 hmk hR0 hbm
    replace u0 := u0.call hb2
    replace u1 := u1.call hb2
    replace u2 := u2.call hb2
    gi_wp2_with (fail)
    have hb02 := bl_call hb01 hb2
    simp only [World.size_alloc] at *
    generalize hN : w1.heap.size = N at *
    have hzl : (List.replicate g.length (0 : Int)).length = g.length := by simp
    have HIT := makers_iter w w2 A (some ⟨N, 0, none⟩) R g (List.replicate g.length 0) cap g.length (N + 1) (N + 1 + 1) (fun k => k < w.heap.size ∨ k = N ∨ k = N + 1 ∨ k = N + 2) hg hb02 hr hR2.rd (by omega) (by omega) x1.one.1 (by rw [hzl]; exact x2.one.1) (fun k h => .inl h) (.inr (.inr (.inl rfl))) (.inr (.inr (.inr rfl))) (by rintro k (h | h | h | h) <;> omega) (fun a e1 h => .inr (.inl (by cases e1; rfl)))
    refine wp_range (n := 9) (gf := 91) (lb := #[.pointer (some ⟨N + 1, 0, none⟩), .pointer (some ⟨N + 1 + 1, 0, none⟩)]) rfl (enters_of Try.func91 (by kernel_rfl) rfl)
      HIT (Below.refl _ _) (by rintro k (h | h | h | h) <;> omega) (by rintro e x vs W' ⟨A', c, rfl, _⟩; rfl)
      (fun e pre X => Hid (pre.find? (fun v => decide (0 < sizeL v)) = none) ∧ Bx X w.heap.size 23 #[.slice none 0 0] ∧ Bx X (w.heap.size + 1) 4 #[.bool false] ∧ Bx X (w.heap.size + 2) 27 #[.int .i64 0] ∧ Below w.heap.size w X)
      (fun e c pre X => c = .ret ∧ ∃ q A' cc, Hid (pre.find? (fun v => decide (0 < sizeL v)) = some q) ∧ X.ownsRow e 3 1 (.slice A' q.length cc) q.length (ints q) ∧ Bx X w.heap.size 23 #[.slice A' q.length cc] ∧ Bx X (w.heap.size + 1) 4 #[.bool true] ∧ Bx X (w.heap.size + 2) 27 #[.int .i64 0] ∧ Below w.heap.size w X) ?hI ?hIx ?h0
      (fun e x a' X => ∃ A' c, X.ownsRow e 3 1 (.slice A' x.length c) x.length (ints x) ∧ a' = { tmps := #[.slice A g.length cap, undef, .pointer (some ⟨w.heap.size, 0, none⟩), .pointer (some ⟨w.heap.size + 1, 0, none⟩), .pointer (some ⟨w.heap.size + 1 + 1, 0, none⟩), .int .i64 0, .slice A' x.length c, .slice A g.length cap, .int .i64 0, .int .i64 0, .bool false, undef, .slice A g.length cap, .slice A g.length cap, .int .i64 g.length, .slice (some ⟨N, 0, none⟩) g.length g.length,
        .func (.func 91) #[] #[.pointer (some ⟨N + 1, 0, none⟩), .pointer (some ⟨N + 1 + 1, 0, none⟩)], .slice A' x.length c, undef, undef, undef, undef], defers := [] })
      ?hAx ?assign ?body ?done ?stop
    case hI =>
      rintro e s X Y ⟨hp, h0, h1, h2, hb⟩ hm
      exact ⟨hp, h0.mod hm (fun h => by have := h.1; omega), h1.mod hm (fun h => by have := h.1; omega), h2.mod hm (fun h => by have := h.1; omega), hb.trans (hm.below hb.size (fun k hk h => by have := h.1; omega))⟩
    case hIx =>
      rintro e c s X Y ⟨hc, q, A', cc, hq, hown, h0, h1, h2, hb⟩ hm
      exact ⟨hc, q, A', cc, hq, own_mod hown hm (fun k hk h => by have := (hown.lt k hk).1; have := h.2; omega), h0.mod hm (fun h => by have := h.1; omega), h1.mod hm (fun h => by have := h.1; omega), h2.mod hm (fun h => by have := h.1; omega), hb.trans (hm.below hb.size (fun k hk h => by have := h.1; omega))⟩
    case h0 =>
      intro e X hb _ _
      exact ⟨rfl, u0.call hb, u1.call hb, u2.call hb, bl_call hb02 hb⟩
    case hAx =>
      rintro e x a' X Y l' o ⟨A', c, hown, rfl⟩ hl' ⟨r, hr'⟩ rfl
      exact ⟨A', c, own_loop hown hr' o, rfl⟩
    case assign =>
      rintro l' e pre x vs X k he hes _ ⟨A', c, rfl, hown⟩ hk
      gi_wp2
      exact hk _ _ (Mod.refl _ X) ⟨A', c, hown, rfl⟩
    case body =>
      rintro l' e pre x a' X he hes ⟨t, hpre⟩ ⟨hp, h0, h1, h2, hb⟩ ⟨A', c, hown, rfl⟩
      have hok : OkV x (wires g) 3 := (mem_makers.1 (show x ∈ makersL g (List.replicate g.length 0) by rw [hpre]; simp)).1
      have hw3 := hg.wrs
      have HZ := Lib.hid (size_c A' x c X (by have := hok.len; omega) (small_get hok (by decide)) (own_rd hown).1)
      have HF : Hid ((pre ++ [x]).find? (fun v => decide (0 < sizeL v)) = if 0 < sizeL x then some x else none) := by
        show _ = _
        rw [List.find?_append, hp.out, Option.none_or]
        by_cases h : 0 < sizeL x <;> simp [h]
      generalize sizeL x = sz at *
      clear hok hpre
      gi_wp2_with (fail)
      refine ⟨trivial, ?_⟩
      refine (CallsIn.inRound l' (callsIn_wide.2 HZ.out)).mono ?_
      rintro en w4 ⟨rfl, hb4⟩
      have hsX : N + 3 ≤ w4.heap.size := by have := hb4.size; omega
      replace h0 := h0.call hb4
      replace h1 := h1.call hb4
      replace h2 := h2.call hb4
      have hb04 := bl_call hb hb4
      have hown4 := own_call hown hb4
      obtain ⟨y0, z0⟩ := h0.one
      obtain ⟨y1, z1⟩ := h1.one
      obtain ⟨y2, z2⟩ := h2.one
      have hm4 : Mod (fun k => ¬ (k < w.heap.size ∨ k = N ∨ k = N + 1 ∨ k = N + 2) ∧ ¬ zone w2.heap.size e k) X w4 := Mod.of_call hb4
      by_cases hlt : 0 < sz
      · rw [if_pos hlt] at HF
        have k0 := ((h0.set1 (.slice A' x.length c)).far (g' := w.heap.size + 1) (i := 0) (by omega) (.bool true)).far (g' := w.heap.size + 2) (i := 0) (by omega) (.int .i64 0)
        have k1 := ((h1.far (g' := w.heap.size) (i := 0) (by omega) (.slice A' x.length c)).set1 (.bool true)).far (g' := w.heap.size + 2) (i := 0) (by omega) (.int .i64 0)
        have k2 := ((h2.far (g' := w.heap.size) (i := 0) (by omega) (.slice A' x.length c)).far (g' := w.heap.size + 1) (i := 0) (by omega) (.bool true)).set1 (.int .i64 0)
        have hbs := bl_set (bl_set (bl_set hb04 (g := w.heap.size) (i := 0) (Nat.le_refl _) (.slice A' x.length c)) (g := w.heap.size + 1) (i := 0) (by omega) (.bool true)) (g := w.heap.size + 2) (i := 0) (by omega) (.int .i64 0)
        have hms : Mod (fun k => w.heap.size ≤ k ∧ k < w.heap.size + 3) w4 (((w4.setCell ⟨w.heap.size, 0, none⟩ (.slice A' x.length c)).setCell ⟨w.heap.size + 1, 0, none⟩ (.bool true)).setCell ⟨w.heap.size + 2, 0, none⟩ (.int .i64 0)) := (((Mod.refl _ w4).setCell (.inr ⟨by omega, by omega⟩) _).setCell (.inr ⟨by omega, by omega⟩) _).setCell (.inr ⟨by omega, by omega⟩) _
        have hown2 := own_mod hown4 hms (fun k hk h => by have := (hown4.lt k hk).1; have := h.2; omega)
        have hmw := hm4.trans (hms.weak (T := fun k => ¬ (k < w.heap.size ∨ k = N ∨ k = N + 1 ∨ k = N + 2) ∧ ¬ zone w2.heap.size e k) (fun k h => ⟨by rintro (h' | h' | h' | h') <;> omega, fun hz => by have := hz.1; omega⟩))
        have HMW := Lib.hid hmw
        clear hms hm4 hmw
        gi_wp2_with (fail)
        exact ⟨by first | exact HMW.out | (rw [hs2] at HMW; exact HMW.out), rfl, x, A', c, HF, hown2, k0, k1, k2, hbs⟩
      · rw [if_neg hlt] at HF
        have HMW := Lib.hid hm4
        clear hm4
        gi_wp2_with (fail)
        exact ⟨by first | exact HMW.out | (rw [hs2] at HMW; exact HMW.out), HF, h0, h1, h2, hb04⟩
    case stop =>
      rintro D e c pre X hD hDe hes ⟨t, hpre⟩ ⟨rfl, q, A', cc, hq, hown, h0, h1, h2, hb⟩ hK
      have HH : Hid (quietG g = some q) := by show _ = _; rw [HG.out, HQL.out, hpre, List.find?_append, hq.out]; rfl
      gi_wp2
      refine ⟨by simp, .inl ⟨_, _, rfl, run_takeDeferred hK, ?_⟩⟩
      have hm : Mod (fun k => k = D) X (X.putObj D (.deferred none)) := (Mod.refl (fun k => k = D) X).putObj (.inr rfl) _
      have y0 := (h0.mod hm (by omega)).one.1
      have y1 := (h1.mod hm (by omega)).one.1
      have y2 := (h2.mod hm (by omega)).one.1
      exact ⟨.tuple #[.slice A' q.length cc, .bool true, .int .i64 0], by simp [results, Try.f31, go_sem, y0, y1, y2], HFO.out (some q) 0 A' cc _ HH.out HE.out ((own_rd hown).1.mod hm (fun ad h1 h2 _ h => by have := (own_rd hown).2 ad h1; have h3 : ad.block = D := h; omega)) (hb.trans (hm.below hb.size (fun k hk h => by have h3 : k = D := h; omega)))⟩
    case done =>
      rintro D e X hD hDe hes ⟨hp, h0, h1, h2, hb⟩ hK
      have HH : Hid (quietG g = none) := by show _ = _; rw [HG.out, HQL.out, hp.out]
      obtain ⟨y0, z0⟩ := h0.one
      obtain ⟨y1, z1⟩ := h1.one
      obtain ⟨y2, z2⟩ := h2.one
      gi_wp2
      have k0 := ((h0.set1 (.slice none 0 0)).far (g' := w.heap.size + 1) (i := 0) (by omega) (.bool false)).far (g' := w.heap.size + 2) (i := 0) (by omega) (.int .i64 0)
      have k1 := ((h1.far (g' := w.heap.size) (i := 0) (by omega) (.slice none 0 0)).set1 (.bool false)).far (g' := w.heap.size + 2) (i := 0) (by omega) (.int .i64 0)
      have k2 := ((h2.far (g' := w.heap.size) (i := 0) (by omega) (.slice none 0 0)).far (g' := w.heap.size + 1) (i := 0) (by omega) (.bool false)).set1 (.int .i64 0)
      have hK' := ((Below.heap_setCell _ ⟨w.heap.size + 2, 0, none⟩ (.int .i64 0) _ (show D ≠ w.heap.size + 2 by omega)).trans ((Below.heap_setCell _ ⟨w.heap.size + 1, 0, none⟩ (.bool false) _ (show D ≠ w.heap.size + 1 by omega)).trans (Below.heap_setCell X ⟨w.heap.size, 0, none⟩ (.slice none 0 0) _ (show D ≠ w.heap.size by omega)))).trans hK
      refine ⟨by simp, .inl ⟨_, _, rfl, run_takeDeferred hK', ?_⟩⟩
      have q0 := (k0.put (l := D) (by omega) (.deferred none)).one.1
      have q1 := (k1.put (l := D) (by omega) (.deferred none)).one.1
      have q2 := (k2.put (l := D) (by omega) (.deferred none)).one.1
      exact ⟨.tuple #[.slice none 0 0, .bool false, .int .i64 0], by simp [results, Try.f31, go_sem, q0, q1, q2], HFO.out none 0 none 0 _ HH.out HE.out (.inl rfl) (bl_put (bl_set (bl_set (bl_set hb (by omega) _) (by omega) _) (by omega) _) (by omega) _)⟩
  · have hW' : okG g = false := by simpa using hW
    rw [hW'] at HV HG
    rw [if_neg (by decide)] at HG
    have HE : Hid (errB (okG g) = 1) := by show _ = _; rw [hW']; rfl
    have hr0 := hr.later hbb0
    go_enter Try.func31, Try.ntmps31
    go_wp2_with (fail)
    refine (HV.out _ hbb0).mono ?_
    rintro e w1 ⟨rfl, hb1⟩
    rw [errB_f]
    replace u0 := u0.call hb1
    replace u1 := u1.call hb1
    replace u2 := u2.call hb1
    have hb01 := bl_call hbb0 hb1
    obtain ⟨y0, z0⟩ := u0.one
    obtain ⟨y1, z1⟩ := u1.one
    obtain ⟨y2, z2⟩ := u2.one
    simp only [World.size_alloc, Nat.add_assoc, Nat.reduceAdd] at *
    go_wp2_with (fail)
    have k0 := ((u0.set1 (.slice none 0 0)).far (g' := w.heap.size + 1) (i := 0) (by omega) (.bool false)).far (g' := w.heap.size + 2) (i := 0) (by omega) (.int .i64 1)
    have k1 := ((u1.far (g' := w.heap.size) (i := 0) (by omega) (.slice none 0 0)).set1 (.bool false)).far (g' := w.heap.size + 2) (i := 0) (by omega) (.int .i64 1)
    have k2 := ((u2.far (g' := w.heap.size) (i := 0) (by omega) (.slice none 0 0)).far (g' := w.heap.size + 1) (i := 0) (by omega) (.bool false)).set1 (.int .i64 1)
    exact bodyPost_ret (v := .tuple #[.slice none 0 0, .bool false, .int .i64 1]) (by simp [results, Try.results31, go_sem, k0.one.1, k1.one.1, k2.one.1]) rfl (HFO.out none 1 none 0 _ HG.out HE.out (.inl rfl) (bl_set (bl_set (bl_set hb01 (by omega) _) (by omega) _) (by omega) _))
end Go.Proofs.Ytmmjdabioolodaa
