/- The sums of paths. -/
import Derived.Test.YtpjdojjdhbmbjaaEnd
namespace Go.Proofs.Ytpjdojjdhbmbjaa
open Go.RowKit Go.Shelf
attribute [local go_sem] Oper.semAt_some

def sumP (l : List (Int × Int)) : Int × Int := l.foldl plusW (0, 0)
theorem sumP_snoc (l : List (Int × Int)) (x : Int × Int) : sumP (l ++ [x]) = plusW (sumP l) x := by simp [sumP]

set_option maxRecDepth 100000 in
set_option maxHeartbeats 2000000 in
theorem sumOf_c (A : Option Addr) (p : List Int) (cap : Nat) (m : Int) (w : World) (hlen : p.length ≤ 9223372036854775806) (hr : Rd w A (ints p)) :
    Calls Try.prog 64 #[.slice A p.length cap, .int .i64 m] w fun e w' => ∃ u v, e = .returned (.agg #[.int .i64 u, .int .i64 v]) ∧ (u, v) = sumP (pathL m p) ∧ Below w.heap.size w w' := by
  refine (callsIn_wide (n := 9)).1 ?_
  refine callsIn_of_wp_marks Try.func64 rfl trivial ?_ rfl
  simp only [Try.ntmps64, List.size_toArray, List.length_cons, List.length_nil, Nat.reduceAdd, Nat.reduceSub, Array.replicate_succ, Array.replicate_zero, List.push_toArray, List.append_toArray, List.nil_append, List.cons_append]
  gi_wp2_with (fail)
  refine ⟨trivial, ?_⟩
  refine (callsIn_wide.2 (points_c _ _ _ _ _)).mono ?_
  rintro en w1 ⟨rfl, hw1⟩
  simp only [World.size_alloc, Nat.add_assoc, Nat.reduceAdd] at *
  have hb1 : Below w.heap.size w w1 := by rw [← hw1]; exact bl_alloc (bl_alloc (bl_alloc (bl_alloc (Below.refl _ _) _) _) _) _
  have hs1 : w1.heap.size = w.heap.size + 4 := by rw [← hw1]; simp
  have x0 : Bx w1 w.heap.size 30 #[.int .i64 0, .int .i64 0] := by rw [← hw1]; exact (((Bx.newAt (by simp)).alloc _).alloc _).alloc _
  have x1 : Bx w1 (w.heap.size + 1) 30 #[.int .i64 0, .int .i64 0] := by rw [← hw1]; exact ((Bx.newAt (by simp)).alloc _).alloc _
  have x2 : Bx w1 (w.heap.size + 2) 22 #[.slice A p.length cap] := by rw [← hw1]; exact (Bx.newAt (by simp)).alloc _
  have x3 : Bx w1 (w.heap.size + 3) 3 #[.int .i64 m] := by rw [← hw1]; exact Bx.newAt (by simp)
  clear hw1
  have hr1 := hr.later hb1
  have hrb := hr.blk
  gi_wp2_with (fail)
  refine wp_range (n := 9) (gf := 87) (lb := #[.pointer (some ⟨w.heap.size + 3, 0, none⟩), .pointer (some ⟨w.heap.size + 2, 0, none⟩)]) rfl (enters_of Try.func87 (by kernel_rfl) rfl)
    (points_iter w1 A p cap m (w.heap.size + 3) (w.heap.size + 2) (fun k => k < w.heap.size ∨ k = w.heap.size + 2 ∨ k = w.heap.size + 3) hlen (by omega) (by omega) x3.one.1 x2.one.1 hr1 (by omega) (.inr (.inl rfl)) (fun a e h => .inl (hrb a e h)))
    (Below.refl _ _) (by omega) (fun _ _ _ h => by rw [h]; rfl)
    (fun e pre W => ∃ x y, Hid ((x, y) = sumP pre) ∧ Bx W w.heap.size 30 #[.int .i64 0, .int .i64 0] ∧ Bx W (w.heap.size + 1) 30 #[.int .i64 x, .int .i64 y] ∧ Below w.heap.size w W)
    (fun _ _ _ _ => False) ?hI (fun _ _ _ _ _ h _ => h.elim) ?h0
    (fun x a' W => ∃ B, Bx W B 30 #[.int .i64 x.1, .int .i64 x.2] ∧ w.heap.size + 4 ≤ B ∧ a' = { tmps := #[.slice A p.length cap, .int .i64 m, undef, undef, .pointer (some ⟨w.heap.size, 0, none⟩), .pointer (some ⟨w.heap.size + 1, 0, none⟩), .pointer (some ⟨B, 0, none⟩),
      .agg #[.int .i64 0, .int .i64 0], .slice A p.length cap, .int .i64 m, .func (.func 87) #[] #[.pointer (some ⟨w.heap.size + 3, 0, none⟩), .pointer (some ⟨w.heap.size + 2, 0, none⟩)], .agg #[.int .i64 x.1, .int .i64 x.2], undef, undef, undef, undef], defers := [] })
    ?hAx ?assign ?body ?done ?stop
  case hI =>
    rintro e s X Y ⟨x, y, hxy, h0, h1, hb⟩ hm
    exact ⟨x, y, hxy, h0.mod hm (fun h => by have := h.1; omega), h1.mod hm (fun h => by have := h.1; omega), hb.trans (hm.below hb.size (fun k hk h => by have := h.1; omega))⟩
  case h0 =>
    intro e W' hb _ _
    exact ⟨0, 0, rfl, x0.call hb, x1.call hb, bl_call hb1 hb⟩
  case hAx =>
    rintro x a' X Y l o ⟨B, hB, hBs, rfl⟩ hl ⟨r, hr⟩ rfl
    exact ⟨B, hB.put (fun e => by subst e; rw [show X.heap[B]? = _ from hB] at hr; cases hr) _, hBs, rfl⟩
  case assign =>
    rintro l e pre x vs W k he hes ⟨x', y', hxy, h0, h1, hb⟩ rfl hk
    gi_wp2
    exact hk _ _ ((Mod.refl _ W).alloc _) ⟨W.heap.size, Bx.new W _ _, by omega, rfl⟩
  case body =>
    rintro l e pre x a' W he hes hpre ⟨x', y', hxy, h0, h1, hb⟩ ⟨B, hB, hBs, rfl⟩
    obtain ⟨hB1, hB2, hB3, hB4⟩ := hB.two
    obtain ⟨hx1, hx2, hx3, hx4⟩ := h1.two
    gi_wp2_with (fail)
    refine ⟨trivial, ?_⟩
    refine (CallsIn.inRound l (callsIn_wide.2 (plus_c _ _ _ _ _))).mono ?_
    rintro en w4 ⟨u, v, rfl, hpl, hb4⟩
    have Hpl : Hid ((u, v) = sumP (pre ++ [x])) := by show (u, v) = _; rw [hpl, sumP_snoc, ← hxy.out]
    obtain ⟨hx1, hx2, hx3, hx4⟩ := (h1.call hb4).two
    clear hpl hB1 hB2 hB3 hB4
    gi_wp2
    exact ⟨(((Mod.of_call hb4).setCell (.inr ⟨by omega, fun h => by have := h.1; omega⟩) _).setCell (.inr ⟨by omega, fun h => by have := h.1; omega⟩) _), u, v, Hpl, ((h0.call hb4).far (by omega) _).far (by omega) _, (h1.call hb4).set2 _ _, bl_set (bl_set (hb.trans (hb4.mono hb.size)) (by omega) _) (by omega) _⟩
  case stop =>
    intro D e c pre W _ _ _ _ h
    exact h.elim
  case done =>
    rintro D e W hD hDe hes ⟨x, y, hxy, h0, h1, hb⟩ hK
    obtain ⟨hx1, hx2, hx3, hx4⟩ := h1.two
    obtain ⟨hy1, hy2, hy3, hy4⟩ := h0.two
    gi_wp2
    have hne : w.heap.size ≠ D := by omega
    have hK' : ((W.setCell ⟨w.heap.size, 0, none⟩ (.int .i64 x)).setCell ⟨w.heap.size, 1, none⟩ (.int .i64 y)).heap[D]? = some (.deferred (some [])) :=
      ((Below.heap_setCell _ _ _ _ (Ne.symm hne)).trans (Below.heap_setCell _ _ _ _ (Ne.symm hne))).trans hK
    refine ⟨by simp, .inl ⟨_, _, rfl, run_takeDeferred hK', ?_⟩⟩
    obtain ⟨hz1, hz2, hz3, hz4⟩ := ((h0.set2 (.int .i64 x) (.int .i64 y)).put hne (.deferred none)).two
    exact ⟨.agg #[.int .i64 x, .int .i64 y], by simp [results, Try.f64, go_sem, hz1, hz2], x, y, rfl, hxy.out, bl_put (bl_set (bl_set hb (by omega) _) (by omega) _) (by omega) _⟩
end Go.Proofs.Ytpjdojjdhbmbjaa
