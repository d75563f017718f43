/- The first crowded stretch: package clock's. -/
import Derived.Test.YtiffgaelndajpaaStr
namespace Go.Proofs.Ytiffgaelndajpaa
open Go.RowKit Go.Shelf
attribute [local go_sem] Oper.semAt_some

/-- The first crowded stretch, and whether there is one. -/
def cwG (l : List T3) : Int × Int × Bool := if validE l = 0 then (match crowdF l with | some s => (s.1, s.2, true) | none => (0, 0, false)) else (0, 0, false)
theorem cwG_some {l : List T3} (hv : validE l = 0) {s : Int × Int} (h : crowdF l = some s) : cwG l = (s.1, s.2, true) := by rw [cwG, if_pos hv, h]
theorem cwG_none {l : List T3} (hv : validE l = 0) (h : crowdF l = none) : cwG l = (0, 0, false) := by rw [cwG, if_pos hv, h]
theorem cwG_bad {l : List T3} (hv : validE l ≠ 0) : cwG l = (0, 0, false) := by rw [cwG, if_neg hv]
/-- Four cells written, one in each of four blocks. -/
def four (W : World) (g : Nat) (u v : Int) (b : Bool) (x : Int) : World :=
  (((W.setCell ⟨g + 1, 0, none⟩ (.int .i64 u)).setCell ⟨g + 2, 0, none⟩ (.int .i64 v)).setCell ⟨g + 3, 0, none⟩ (.bool b)).setCell ⟨g + 4, 0, none⟩ (.int .i64 x)
structure Four (W : World) (g : Nat) (u v : Int) (b : Bool) (x : Int) : Prop where
  h1 : Bx W (g + 1) 3 #[.int .i64 u]
  h2 : Bx W (g + 2) 3 #[.int .i64 v]
  h3 : Bx W (g + 3) 4 #[.bool b]
  h4 : Bx W (g + 4) 26 #[.int .i64 x]
theorem Four.set {W : World} {g : Nat} {u v x u' v' x' : Int} {b b' : Bool} (h : Four W g u v b x) : Four (four W g u' v' b' x') g u' v' b' x' := by
  unfold four
  exact ⟨(((h.h1.set1 _).far (by omega) _).far (by omega) _).far (by omega) _, (((h.h2.far (by omega) _).set1 _).far (by omega) _).far (by omega) _,
    (((h.h3.far (by omega) _).far (by omega) _).set1 _).far (by omega) _, (((h.h4.far (by omega) _).far (by omega) _).far (by omega) _).set1 _⟩
theorem Four.mod {S : Nat → Prop} {W W' : World} {g : Nat} {u v x : Int} {b : Bool} (h : Four W g u v b x) (hm : Mod S W W') (hn : ∀ k, g < k → k < g + 5 → ¬ S k) : Four W' g u v b x :=
  ⟨h.h1.mod hm (hn _ (by omega) (by omega)), h.h2.mod hm (hn _ (by omega) (by omega)), h.h3.mod hm (hn _ (by omega) (by omega)), h.h4.mod hm (hn _ (by omega) (by omega))⟩
theorem Four.call {W W' : World} {g : Nat} {u v x : Int} {b : Bool} (h : Four W g u v b x) (hb : Below W.heap.size W W') : Four W' g u v b x :=
  ⟨h.h1.call hb, h.h2.call hb, h.h3.call hb, h.h4.call hb⟩
theorem Four.put {W : World} {g D : Nat} {u v x : Int} {b : Bool} (h : Four W g u v b x) (hD : g + 5 ≤ D) (o : Obj) : Four (W.putObj D o) g u v b x :=
  ⟨h.h1.put (by omega) _, h.h2.put (by omega) _, h.h3.put (by omega) _, h.h4.put (by omega) _⟩
theorem bl_four {w W : World} (hb : Below w.heap.size w W) (u v : Int) (b : Bool) (x : Int) : Below w.heap.size w (four W w.heap.size u v b x) := by
  unfold four
  exact bl_set (bl_set (bl_set (bl_set hb (by omega) _) (by omega) _) (by omega) _) (by omega) _
theorem mod_four {S : Nat → Prop} (W : World) (g : Nat) (hS : ∀ k, g < k → k < g + 5 → S k) (u v : Int) (b : Bool) (x : Int) : Mod S W (four W g u v b x) := by
  unfold four
  exact ((((Mod.refl S W).setCell (.inr (hS _ (by omega) (by omega))) _).setCell (.inr (hS _ (by omega) (by omega))) _).setCell (.inr (hS _ (by omega) (by omega))) _).setCell (.inr (hS _ (by omega) (by omega))) _
theorem four_heap (W : World) (g D : Nat) (hD : g + 5 ≤ D) (u v : Int) (b : Bool) (x : Int) : (four W g u v b x).heap[D]? = W.heap[D]? := by
  unfold four
  rw [Below.heap_setCell _ _ _ _ (by show D ≠ g + 4; omega), Below.heap_setCell _ _ _ _ (by show D ≠ g + 3; omega), Below.heap_setCell _ _ _ _ (by show D ≠ g + 2; omega), Below.heap_setCell _ _ _ _ (by show D ≠ g + 1; omega)]
set_option maxRecDepth 100000 in
set_option maxHeartbeats 4000000 in
theorem Crowded_c (A : Option Addr) (l : List T3) (c : Nat) (w : World) (hlen : l.length ≤ 1000) (hr : Rd w A (cellsT l)) :
    Calls Try.prog 36 #[.slice A l.length c] w fun e w' => e = .returned (.tuple #[.int .i64 (cwG l).1, .int .i64 (cwG l).2.1, .bool (cwG l).2.2, .int .i64 (validE l)]) ∧ Below w.heap.size w w' := by
  have hb0 : Below w.heap.size w (((((w.alloc (.cells #[.slice A l.length c] 22)).alloc (.cells #[.int .i64 0] 3)).alloc (.cells #[.int .i64 0] 3)).alloc (.cells #[.bool false] 4)).alloc (.cells #[.int .i64 0] 26)) := bl_alloc (bl_alloc (bl_alloc (bl_alloc (bl_alloc (Below.refl _ _) _) _) _) _) _
  have HV := Lib.hid (validate_c A l c _ hlen (hr.later hb0))
  have x0 : Bx (((((w.alloc (.cells #[.slice A l.length c] 22)).alloc (.cells #[.int .i64 0] 3)).alloc (.cells #[.int .i64 0] 3)).alloc (.cells #[.bool false] 4)).alloc (.cells #[.int .i64 0] 26)) w.heap.size 22 #[.slice A l.length c] := ((((Bx.newAt rfl).alloc _).alloc _).alloc _).alloc _
  have x1 : Bx (((((w.alloc (.cells #[.slice A l.length c] 22)).alloc (.cells #[.int .i64 0] 3)).alloc (.cells #[.int .i64 0] 3)).alloc (.cells #[.bool false] 4)).alloc (.cells #[.int .i64 0] 26)) (w.heap.size + 1) 3 #[.int .i64 0] := (((Bx.newAt (by simp)).alloc _).alloc _).alloc _
  have x2 : Bx (((((w.alloc (.cells #[.slice A l.length c] 22)).alloc (.cells #[.int .i64 0] 3)).alloc (.cells #[.int .i64 0] 3)).alloc (.cells #[.bool false] 4)).alloc (.cells #[.int .i64 0] 26)) (w.heap.size + 2) 3 #[.int .i64 0] := ((Bx.newAt (by simp)).alloc _).alloc _
  have x3 : Bx (((((w.alloc (.cells #[.slice A l.length c] 22)).alloc (.cells #[.int .i64 0] 3)).alloc (.cells #[.int .i64 0] 3)).alloc (.cells #[.bool false] 4)).alloc (.cells #[.int .i64 0] 26)) (w.heap.size + 3) 4 #[.bool false] := (Bx.newAt (by simp)).alloc _
  have x4 : Bx (((((w.alloc (.cells #[.slice A l.length c] 22)).alloc (.cells #[.int .i64 0] 3)).alloc (.cells #[.int .i64 0] 3)).alloc (.cells #[.bool false] 4)).alloc (.cells #[.int .i64 0] 26)) (w.heap.size + 4) 26 #[.int .i64 0] := Bx.newAt (by simp)
  by_cases hv : validE l = 0
  · have hl := validE_ok.1 hv
    have HCS := Lib.hid (fun s => @cwG_some l hv s)
    have HCN := Lib.hid (@cwG_none l hv)
    rw [hv] at HV ⊢
    clear hv
    refine (callsIn_wide (n := 9)).1 ?_
    refine callsIn_of_wp_marks Try.func36 rfl trivial ?_ rfl
    simp only [Try.ntmps36, List.size_toArray, List.length_cons, List.length_nil, Nat.reduceAdd, Nat.reduceSub, Array.replicate_succ, Array.replicate_zero, List.push_toArray, List.append_toArray, List.nil_append, List.cons_append]
    gi_wp2_with (fail)
    refine ⟨trivial, ?_⟩
    refine (callsIn_wide.2 HV.out).mono ?_
    rintro en w2 ⟨rfl, hb1⟩
    simp only [World.size_alloc, Nat.add_assoc, Nat.reduceAdd] at *
    have hb2 : Below w.heap.size w w2 := hb0.trans (hb1.mono (by omega))
    have y0 := hb1.block w.heap.size (by omega)
    have hx0 : Bx w2 w.heap.size 22 #[.slice A l.length c] := (hb1.block _ (by omega)).trans x0
    have hx1 : Bx w2 (w.heap.size + 1) 3 #[.int .i64 0] := (hb1.block _ (by omega)).trans x1
    have hx2 : Bx w2 (w.heap.size + 2) 3 #[.int .i64 0] := (hb1.block _ (by omega)).trans x2
    have hx3 : Bx w2 (w.heap.size + 3) 4 #[.bool false] := (hb1.block _ (by omega)).trans x3
    have hx4 : Bx w2 (w.heap.size + 4) 26 #[.int .i64 0] := (hb1.block _ (by omega)).trans x4
    have hlt := hx4.lt
    clear x0 x1 x2 x3 x4 hb0 hb1 HV y0
    gi_wp2_with (fail)
    have hF : Four w2 w.heap.size 0 0 false 0 := ⟨hx1, hx2, hx3, hx4⟩
    clear hx1 hx2 hx3 hx4
    refine wp_range (n := 9) (gf := 67) (lb := #[]) rfl (enters_of Try.func67 (by kernel_rfl) rfl)
      (stretches_iter w2 (fun _ => False)) (Below.refl _ _) (fun _ h => h.elim) (fun _ _ _ h => by rw [h]; rfl)
      (fun e pre W => Hid (∀ x ∈ pre, crwB l x = false) ∧ Bx W w.heap.size 22 #[.slice A l.length c] ∧ Four W w.heap.size 0 0 false 0 ∧ Below w.heap.size w W)
      (fun e k pre W => k = .ret ∧ ∃ s, Hid (crowdF l = some s) ∧ Four W w.heap.size s.1 s.2 true 0 ∧ Below w.heap.size w W) ?hI ?hIx ?h0
      (fun x a' W => a' = { tmps := #[.slice A l.length c, .pointer (some ⟨w.heap.size, 0, none⟩), .pointer (some ⟨w.heap.size + 1, 0, none⟩), .pointer (some ⟨w.heap.size + 2, 0, none⟩), .pointer (some ⟨w.heap.size + 3, 0, none⟩), .pointer (some ⟨w.heap.size + 4, 0, none⟩), .int .i64 0, .int .i64 x.1, .int .i64 x.2,
        .slice A l.length c, .int .i64 0, .int .i64 0, .bool false, undef, .int .i64 x.1, .int .i64 x.2, undef, undef, undef, undef, undef, undef], defers := [] })
      ?hAx ?assign ?body ?done ?stop
    case hI =>
      rintro e s X Y ⟨hm, h0, h1, hb⟩ hmod
      exact ⟨hm, h0.mod hmod (fun h => by have := h.1; omega), h1.mod hmod (fun k h1 h2 h => by have := h.1; omega), hb.trans (hmod.below hb.size (fun k hk h => by have := h.1; omega))⟩
    case hIx =>
      rintro e k s X Y ⟨hk, x, hs, h1, hb⟩ hmod
      exact ⟨hk, x, hs, h1.mod hmod (fun k h1 h2 h => by have := h.1; omega), hb.trans (hmod.below hb.size (fun k hk h => by have := h.1; omega))⟩
    case h0 =>
      intro e W' hb _ _
      exact ⟨fun x hx => by simp at hx, hx0.call hb, hF.call hb, bl_call hb2 hb⟩
    case hAx =>
      rintro x a' X Y l' o rfl _ _ _
      rfl
    case assign =>
      rintro l' e pre x vs W k he hes _ rfl hk
      gi_wp2
      exact hk _ _ (Mod.refl _ W) rfl
    case body =>
      rintro l' e pre x a' W he hes ⟨t, hpre⟩ ⟨hm, h0, h1, hb⟩ rfl
      have hxm := mem_strL.1 (show x ∈ strL by rw [hpre]; simp)
      have HD := Lib.hid (isCrowded_c A l c x.1 x.2 W ⟨by omega, by omega, by omega, by omega⟩ hlen hl.jobs (hr.later hb))
      have HB : Hid (crwB l x = decide (x.2 - x.1 < dem l x.1 x.2)) := rfl
      rw [← HB.out] at HD
      have HY : Hid (crwB l x = true → crowdF l = some x) := fun h => crowdF_found hpre hm.out h
      have HNO : Hid (crwB l x = false → ∀ y ∈ pre ++ [x], crwB l y = false) := fun h y hy => by
        rcases List.mem_append.1 hy with h' | h'
        · exact hm.out y h'
        · rw [List.mem_singleton.1 h']; exact h
      obtain ⟨y1, y2⟩ := h0.one
      obtain ⟨z1, z2⟩ := h1.h1.one
      obtain ⟨z3, z4⟩ := h1.h2.one
      obtain ⟨z5, z6⟩ := h1.h3.one
      obtain ⟨z7, z8⟩ := h1.h4.one
      clear hpre HB
      generalize crwB l x = b at *
      obtain ⟨xa, xb⟩ := x
      simp only [] at hxm HD
      gi_wp2_with (fail)
      refine ⟨trivial, ?_⟩
      refine (CallsIn.inRound l' (callsIn_wide.2 HD.out)).mono ?_
      rintro en w4 ⟨rfl, hb4⟩
      have h04 := h0.call hb4
      have h14 := h1.call hb4
      have hb04 := bl_call hb hb4
      clear y1 y2 z1 z2 z3 z4 z5 z6 z7 z8 h0 h1
      obtain ⟨z1, z2⟩ := h14.h1.one
      obtain ⟨z3, z4⟩ := h14.h2.one
      obtain ⟨z5, z6⟩ := h14.h3.one
      obtain ⟨z7, z8⟩ := h14.h4.one
      cases b with
      | true =>
        gi_wp2_with (fail)
        exact ⟨(Mod.of_call hb4).trans (mod_four w4 w.heap.size (fun k h1 h2 => ⟨fun h => h, fun h => by have := h.1; omega⟩) xa xb true 0), rfl, _, HY.out (by simp), h14.set, bl_four hb04 _ _ _ _⟩
      | false =>
        gi_wp2_with (fail)
        exact ⟨Mod.of_call hb4, HNO.out (by simp), h04, h14, hb04⟩
    case stop =>
      rintro D e k pre W hD hDe hes hpre ⟨rfl, s, hs, h1, hb⟩ hK
      gi_wp2
      refine ⟨by simp, .inl ⟨_, _, rfl, run_takeDeferred hK, ?_⟩⟩
      have h2 := h1.put (D := D) (by omega) (.deferred none)
      obtain ⟨z1, z2⟩ := h2.h1.one
      obtain ⟨z3, z4⟩ := h2.h2.one
      obtain ⟨z5, z6⟩ := h2.h3.one
      obtain ⟨z7, z8⟩ := h2.h4.one
      exact ⟨.tuple #[.int .i64 s.1, .int .i64 s.2, .bool true, .int .i64 0], by simp [results, Try.f36, go_sem, z1, z3, z5, z7], by rw [HCS.out s hs.out], bl_put hb (by omega) _⟩
    case done =>
      rintro D e W hD hDe hes ⟨hm, h0, h1, hb⟩ hK
      obtain ⟨z1, z2⟩ := h1.h1.one
      obtain ⟨z3, z4⟩ := h1.h2.one
      obtain ⟨z5, z6⟩ := h1.h3.one
      obtain ⟨z7, z8⟩ := h1.h4.one
      gi_wp2
      have h2 : Four (four W w.heap.size 0 0 false 0) w.heap.size 0 0 false 0 := h1.set
      have hK2 := (four_heap W w.heap.size D (by omega) 0 0 false 0).trans hK
      have hb2 := bl_four hb 0 0 false 0
      refine ⟨by simp, .inl ⟨_, _, rfl, run_takeDeferred hK2, ?_⟩⟩
      have h3 := h2.put (D := D) (by omega) (.deferred none)
      obtain ⟨z1, z2⟩ := h3.h1.one
      obtain ⟨z3, z4⟩ := h3.h2.one
      obtain ⟨z5, z6⟩ := h3.h3.one
      obtain ⟨z7, z8⟩ := h3.h4.one
      exact ⟨.tuple #[.int .i64 0, .int .i64 0, .bool false, .int .i64 0], by unfold four at z1 z3 z5 z7; simp [results, Try.f36, go_sem, z1, z3, z5, z7], by rw [HCN.out (crowdF_none hm.out)], bl_put hb2 (by omega) _⟩
  · rw [cwG_bad hv]
    have hv' : (validE l != 0) = true := by simpa using hv
    generalize validE l = ev at *
    refine (callsIn_wide (n := 9)).1 ?_
    refine callsIn_of_wp_marks Try.func36 rfl trivial ?_ rfl
    simp only [Try.ntmps36, List.size_toArray, List.length_cons, List.length_nil, Nat.reduceAdd, Nat.reduceSub, Array.replicate_succ, Array.replicate_zero, List.push_toArray, List.append_toArray, List.nil_append, List.cons_append]
    gi_wp2_with (fail)
    refine ⟨trivial, ?_⟩
    refine (callsIn_wide.2 HV.out).mono ?_
    rintro en w2 ⟨rfl, hb1⟩
    simp only [World.size_alloc, Nat.add_assoc, Nat.reduceAdd] at *
    have hb2 : Below w.heap.size w w2 := hb0.trans (hb1.mono (by omega))
    have hx1 : Bx w2 (w.heap.size + 1) 3 #[.int .i64 0] := (hb1.block _ (by omega)).trans x1
    have hx2 : Bx w2 (w.heap.size + 2) 3 #[.int .i64 0] := (hb1.block _ (by omega)).trans x2
    have hx3 : Bx w2 (w.heap.size + 3) 4 #[.bool false] := (hb1.block _ (by omega)).trans x3
    have hx4 : Bx w2 (w.heap.size + 4) 26 #[.int .i64 0] := (hb1.block _ (by omega)).trans x4
    clear x0 x1 x2 x3 x4 hb0 hb1 HV
    obtain ⟨a1, b1⟩ := hx1.one
    obtain ⟨a2, b2⟩ := hx2.one
    obtain ⟨a3, b3⟩ := hx3.one
    obtain ⟨a4, b4⟩ := hx4.one
    gi_wp2_with (fail)
    have h2 : Four (four w2 w.heap.size 0 0 false ev) w.heap.size 0 0 false ev := Four.set ⟨hx1, hx2, hx3, hx4⟩
    obtain ⟨z1, z2⟩ := h2.h1.one
    obtain ⟨z3, z4⟩ := h2.h2.one
    obtain ⟨z5, z6⟩ := h2.h3.one
    obtain ⟨z7, z8⟩ := h2.h4.one
    exact ⟨.tuple #[.int .i64 0, .int .i64 0, .bool false, .int .i64 ev], by unfold four at z1 z3 z5 z7; simp [results, Try.f36, go_sem, z1, z3, z5, z7], rfl, bl_four hb2 _ _ _ _⟩
end Go.Proofs.Ytiffgaelndajpaa
