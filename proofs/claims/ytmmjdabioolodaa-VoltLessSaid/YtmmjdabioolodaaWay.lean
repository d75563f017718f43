/- How many voltages make a wish: package volt's contract. -/
import Derived.Test.YtmmjdabioolodaaMak
import Derived.Test.YtmmjdabioolodaaDef
namespace Go.Proofs.Ytmmjdabioolodaa
open Go.RowKit Go.Shelf
attribute [local go_sem] Oper.semAt_some

set_option maxRecDepth 100000 in
set_option maxHeartbeats 4000000 in
theorem Ways_c (A B : Option Addr) (R : Rows) (g : List (List Int)) (l : List Int) (cap cap' : Nat) (w : World) (hl : Brief g) (hl' : l.length ≤ 1000) (hr : RT w A R g) (hs : Rd w B (ints l)) :
    Calls Try.prog 28 #[.slice A g.length cap, .slice B l.length cap'] w fun e w' => e = .returned (.tuple #[.int .i64 (wayG g l), .int .i64 (errB (wayB g l))]) ∧ Below w.heap.size w w' := by
  have HV := Lib.hid (validateWish_c A B R g l cap cap' w hl hl' hr hs)
  change Hid (Calls _ _ _ _ fun e w' => e = .returned (.int .i64 (errB (wayB g l))) ∧ _) at HV
  unfold wayG
  by_cases hW : wayB g l = true
  · obtain ⟨hg, hlw⟩ := wayB_iff hW
    rw [hW] at HV ⊢
    rw [if_pos rfl]
    have hM := makers_len g l hg.wrs.2
    clear hlw hW
    refine (callsIn_wide (n := 9)).1 ?_
    refine callsIn_of_wp_marks Try.func28 rfl trivial ?_ rfl
    simp only [Try.ntmps28, List.size_toArray, List.length_cons, List.length_nil, Nat.reduceAdd, Nat.reduceSub, Array.replicate_succ, Array.replicate_zero, List.push_toArray, List.append_toArray, List.nil_append, List.cons_append]
    gi_wp2_with (fail)
    refine ⟨trivial, ?_⟩
    refine (callsIn_wide.2 HV.out).mono ?_
    rintro en w1 ⟨rfl, hb1⟩
    rw [errB_t]
    gi_wp2_with (fail)
    refine ⟨trivial, ?_⟩
    refine (callsIn_wide.2 (makers_c _ _ _ _ _ _ _)).mono ?_
    rintro en w2 ⟨rfl, hw2⟩
    have hs2 : w2.heap.size = w1.heap.size + 3 := by rw [← hw2]; simp
    have hb2 : Below w1.heap.size w1 w2 := by rw [← hw2]; exact bl_alloc (bl_alloc (bl_alloc (Below.refl _ _) _) _) _
    have x0 : Bx w2 w1.heap.size 3 #[.int .i64 0] := by rw [← hw2]; exact ((Bx.new w1 _ _).alloc _).alloc _
    have x1 : Bx w2 (w1.heap.size + 1) 22 #[.slice A g.length cap] := by rw [← hw2]; exact (Bx.newAt (by simp)).alloc _
    have x2 : Bx w2 (w1.heap.size + 2) 23 #[.slice B l.length cap'] := by rw [← hw2]; exact Bx.newAt (by simp)
    clear hw2
    simp only [World.size_alloc] at *
    gi_wp2_with (fail)
    have hsw := hb1.size
    generalize hN : w1.heap.size = N at *
    refine wp_range (n := 9) (gf := 91) (lb := #[.pointer (some ⟨N + 1, 0, none⟩), .pointer (some ⟨N + 1 + 1, 0, none⟩)]) rfl (enters_of Try.func91 (by kernel_rfl) rfl)
      (makers_iter w w2 A B R g l cap cap' (N + 1) (N + 1 + 1) (fun k => k < w.heap.size ∨ k = N + 1 ∨ k = N + 1 + 1) hg (bl_call hb1 (hN ▸ hb2)) hr (hs.later (bl_call hb1 (hN ▸ hb2))) (by omega) (by omega) x1.one.1 x2.one.1 (fun k h => .inl h) (.inr (.inl rfl)) (.inr (.inr rfl)) (by rintro k (h | h | h) <;> omega) (fun a e1 h => .inl (hs.blk a e1 h)))
      (Below.refl _ _) (by rintro k (h | h | h) <;> omega) (by rintro e x vs W' ⟨A', c, rfl, _⟩; rfl)
      (fun e pre X => Bx X N 3 #[.int .i64 pre.length] ∧ Below w.heap.size w X)
      (fun _ _ _ _ => False) ?hI (fun _ _ _ _ _ h _ => h.elim) ?h0
      (fun e x a' X => ∃ A' c, a' = { tmps := #[.slice A g.length cap, .slice B l.length cap', undef, undef, .int .i64 0, .int .i64 0, .int .i64 0, .pointer (some ⟨N, 0, none⟩), .slice A g.length cap, .slice B l.length cap', .int .i64 0, .int .i64 0, .bool false, undef, .slice A g.length cap, .slice B l.length cap',
        .func (.func 91) #[] #[.pointer (some ⟨N + 1, 0, none⟩), .pointer (some ⟨N + 1 + 1, 0, none⟩)], .slice A' x.length c, undef, undef, undef], defers := [] })
      ?hAx ?assign ?body ?done ?stop
    case hI =>
      rintro e s X Y ⟨h0, hb⟩ hm
      exact ⟨h0.mod hm (fun h => by have := h.1; omega), hb.trans (hm.below hb.size (fun k hk h => by have := h.1; omega))⟩
    case h0 =>
      intro e X hb _ _
      exact ⟨x0.call hb, bl_call (bl_call hb1 (hN ▸ hb2)) hb⟩
    case hAx =>
      rintro e x a' X Y l' o ⟨A', c, rfl⟩ _ _ _
      exact ⟨A', c, rfl⟩
    case assign =>
      rintro l' e pre x vs X k he hes _ ⟨A', c, rfl, hown⟩ hk
      gi_wp2
      exact hk _ _ (Mod.refl _ X) ⟨A', c, by first | rfl | simp⟩
    case body =>
      rintro l' e pre x a' X he hes ⟨t, hpre⟩ ⟨h0, hb⟩ ⟨A', c, rfl⟩
      have hpl : pre.length + 1 ≤ 343 := by have h := congrArg List.length hpre; simp at h; omega
      have q1 : wrap64 ((pre.length : Int) + 1) = (pre.length : Int) + 1 := IntWalk.wrap64_in _ ⟨by omega, by omega⟩
      obtain ⟨y1, y2⟩ := h0.one
      have hlen : Hid ((((pre ++ [x]).length : Nat) : Int) = (pre.length : Int) + 1) := by show _ = _; simp
      gi_wp2_with (fail)
      exact ⟨(Mod.refl _ X).setCell (.inr ⟨by rintro (h | h | h) <;> omega, fun h => by have := h.1; omega⟩) _, by rw [hlen.out]; exact h0.set1 _, bl_set hb (by omega) _⟩
    case stop =>
      intro D e c pre X _ _ _ _ h
      exact h.elim
    case done =>
      rintro D e X hD hDe hes ⟨h0, hb⟩ hK
      obtain ⟨y1, y2⟩ := h0.one
      generalize hm : (makersL g l).length = m at *
      gi_wp2_with (fail)
      refine ⟨by simp, .inl ⟨_, _, rfl, run_takeDeferred hK, ?_⟩⟩
      exact ⟨_, results_tmp2 rfl _ _ _, by rw [hm]; rfl, bl_put hb (by omega) _⟩
  · have hW' : wayB g l = false := by simpa using hW
    rw [hW'] at HV ⊢
    rw [if_neg (by decide)]
    go_enter Try.func28, Try.ntmps28
    go_wp2_with (fail)
    refine HV.out.mono ?_
    rintro e w1 ⟨rfl, hb1⟩
    rw [errB_f]
    go_wp2_with (fail)
    go_ret2
    exact ⟨rfl, hb1⟩
end Go.Proofs.Ytmmjdabioolodaa
