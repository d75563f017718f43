/- A place as a key: placeOf, after. -/
import Derived.Test.YtjgpfnnokdcgoaaMoves
import Derived.Laws.CopyOwn
namespace Go.Proofs.Ytjgpfnnokdcgoaa
open Go.RowKit Go.Maps

/-- A place as a key: four numbers. -/
abbrev plA (p : List Int) : Array Value := #[.int .i64 (p.getD 0 0), .int .i64 (p.getD 1 0), .int .i64 (p.getD 2 0), .int .i64 (p.getD 3 0)]
set_option maxRecDepth 100000 in
theorem copy_place {w : World} {g : Nat} {A : Option Addr} {p : List Int} (c : Nat) (hx : Bx w g 92 #[.int .i64 0, .int .i64 0, .int .i64 0, .int .i64 0]) (hp : p.length ≤ 4) (hr : Rd w A (ints p)) :
    ∃ w', (∀ ty, (Builtin.copy_ #[25, 25] ty #[.slice (some ⟨g, 0, none⟩) 4 4, .slice A p.length c]).run Try.prog w = .ok (goInt p.length) w') ∧ Bx w' g 92 (plA p) ∧ (∀ B, B ≤ g → Below B w w') := by
  have hi : (Try.prog.info? 3).map (·.size) = some 1 := by kernel_rfl
  have hmin : Nat.min p.length 4 = p.length := Nat.min_eq_left hp
  rcases hr with h0 | ⟨b, o, rfl, _, hc⟩
  · have h0' : p = [] := by cases p with | nil => rfl | cons x t => simp [ints] at h0
    subst h0'
    exact ⟨w, fun ty => run_copy_none (P := Try.prog) w 25 25 ty 3 _ A 4 4 0 c Try.underlying25 hi rfl, hx, fun B _ => Below.refl _ _⟩
  · refine ⟨w.setRow g (plA p), fun ty => ?_, ?_, ?_⟩
    rotate_left
    · exact (setRow_heap w g _ (plA p) _ _ hx)
    · intro B hB
      exact below_setRow (Below.refl _ _) hB _
    · have h := run_copy_row (P := Try.prog) w 25 25 ty 3 g 0 4 4 ⟨b, o, none⟩ p.length c _ _ (ints p) Try.underlying25 hi hx (by simp [hmin]) (fun j v hj => by
        have hadd : (⟨b, o, none⟩ : Addr).add j = ⟨b, o + j, none⟩ := by unfold Addr.add; split <;> simp_all
        rw [hadd]; exact hc j v hj) (by simp; omega) (fun v hv => by
        obtain ⟨x, _, rfl⟩ := List.mem_map.1 hv
        rfl)
      rw [h]
      have e : (List.take 0 #[Value.int .i64 0, .int .i64 0, .int .i64 0, .int .i64 0].toList ++ ints p ++ List.drop (0 + (ints p).length) #[Value.int .i64 0, .int .i64 0, .int .i64 0, .int .i64 0].toList).toArray = plA p := by
        match p, hp with
        | [], _ => rfl
        | [a], _ => rfl
        | [a, b], _ => rfl
        | [a, b, c], _ => rfl
        | [a, b, c, d], _ => rfl
      rw [e, ints_length]

set_option maxRecDepth 100000 in
set_option maxHeartbeats 2000000 in
theorem placeOf_c (A : Option Addr) (p : List Int) (c : Nat) (w : World) (hp : p.length ≤ 4) (hr : Rd w A (ints p)) :
    Calls Try.prog 93 #[.slice A p.length c] w fun e w' => e = .returned (.agg (plA p)) ∧ Below w.heap.size w w' := by
  have hb0 := bl_alloc (bl_alloc (Below.refl w.heap.size w) (.cells #[.int .i64 0, .int .i64 0, .int .i64 0, .int .i64 0] 92)) (.cells #[.int .i64 0, .int .i64 0, .int .i64 0, .int .i64 0] 92)
  have x0 : Bx ((w.alloc (.cells #[.int .i64 0, .int .i64 0, .int .i64 0, .int .i64 0] 92)).alloc (.cells #[.int .i64 0, .int .i64 0, .int .i64 0, .int .i64 0] 92)) w.heap.size 92 #[.int .i64 0, .int .i64 0, .int .i64 0, .int .i64 0] := (Bx.new w _ _).alloc _
  have x1 : Bx ((w.alloc (.cells #[.int .i64 0, .int .i64 0, .int .i64 0, .int .i64 0] 92)).alloc (.cells #[.int .i64 0, .int .i64 0, .int .i64 0, .int .i64 0] 92)) (w.heap.size + 1) 92 #[.int .i64 0, .int .i64 0, .int .i64 0, .int .i64 0] := Bx.newAt (by simp)
  obtain ⟨w2, hcp, y1, hbl⟩ := copy_place c x1 hp (hr.later hb0)
  have y0 : Bx w2 w.heap.size 92 #[.int .i64 0, .int .i64 0, .int .i64 0, .int .i64 0] := ((hbl (w.heap.size + 1) (Nat.le_refl _)).block _ (by omega)).trans x0
  have hb2 : Below w.heap.size w w2 := hb0.trans (hbl _ (by omega))
  obtain ⟨p0, p1, p2, p3⟩ : w2.cell? ⟨w.heap.size + 1, 0, none⟩ = some (.int .i64 (p.getD 0 0)) ∧ w2.cell? ⟨w.heap.size + 1, 1, none⟩ = some (.int .i64 (p.getD 1 0)) ∧ w2.cell? ⟨w.heap.size + 1, 2, none⟩ = some (.int .i64 (p.getD 2 0)) ∧ w2.cell? ⟨w.heap.size + 1, 3, none⟩ = some (.int .i64 (p.getD 3 0)) := ⟨y1.cell 0, y1.cell 1, y1.cell 2, y1.cell 3⟩
  obtain ⟨r0, r1, r2, r3⟩ : w2.cell? ⟨w.heap.size, 0, none⟩ = some (.int .i64 0) ∧ w2.cell? ⟨w.heap.size, 1, none⟩ = some (.int .i64 0) ∧ w2.cell? ⟨w.heap.size, 2, none⟩ = some (.int .i64 0) ∧ w2.cell? ⟨w.heap.size, 3, none⟩ = some (.int .i64 0) := ⟨y0.cell 0, y0.cell 1, y0.cell 2, y0.cell 3⟩
  have f0 := y0.free 0
  have f1 := y0.free 1
  have f2 := y0.free 2
  have f3 := y0.free 3
  have yF := (((y0.set 0 (.int .i64 (p.getD 0 0))).set 1 (.int .i64 (p.getD 1 0))).set 2 (.int .i64 (p.getD 2 0))).set 3 (.int .i64 (p.getD 3 0))
  have bF := bl_set (bl_set (bl_set (bl_set hb2 (Nat.le_refl _) (.int .i64 (p.getD 0 0)) (i := 0)) (Nat.le_refl _) (.int .i64 (p.getD 1 0)) (i := 1)) (Nat.le_refl _) (.int .i64 (p.getD 2 0)) (i := 2)) (Nat.le_refl _) (.int .i64 (p.getD 3 0)) (i := 3)
  unfold plA at *
  generalize p.getD 0 0 = v0 at *
  generalize p.getD 1 0 = v1 at *
  generalize p.getD 2 0 = v2 at *
  generalize p.getD 3 0 = v3 at *
  go_enter Try.func93, Try.ntmps93
  go_wp2_with (fail)
  refine bodyPost_ret (results_cell_row rfl _ _ w.heap.size 92 _ (0, 0) _ rfl yF Try.underlying92 rfl (by kernel_rfl)) rfl ?_
  exact ⟨rfl, bF⟩

theorem plA_set {p : List Int} {i : Nat} (hi : i < p.length) (hp : p.length ≤ 4) (t : Int) : plA (p.set i t) = (plA p).setIfInBounds i (.int .i64 t) := by
  match p, i, hp, hi with
  | [a], 0, _, _ => rfl
  | [a, b], 0, _, _ => rfl
  | [a, b], 1, _, _ => rfl
  | [a, b, c], 0, _, _ => rfl
  | [a, b, c], 1, _, _ => rfl
  | [a, b, c], 2, _, _ => rfl
  | [a, b, c, d], 0, _, _ => rfl
  | [a, b, c, d], 1, _, _ => rfl
  | [a, b, c, d], 2, _, _ => rfl
  | [a, b, c, d], 3, _, _ => rfl
  | [_], i + 1, _, h => simp at h
  | [_, _], i + 2, _, h => simp at h; omega
  | [_, _, _], i + 3, _, h => simp at h; omega
  | [_, _, _, _], i + 4, _, h => simp at h; omega
  | _ :: _ :: _ :: _ :: _ :: _, _, h, _ => simp at h

set_option maxRecDepth 100000 in
set_option maxHeartbeats 2000000 in
theorem after_c (p : List Int) (i : Nat) (t : Int) (w : World) (hp : p.length ≤ 4) (hi : i < p.length) :
    Calls Try.prog 95 #[.agg (plA p), .agg #[.int .i64 i, .int .i64 t]] w fun e w' => e = .returned (.agg (plA (p.set i t))) ∧ Below w.heap.size w w' := by
  rw [plA_set hi hp]
  have hi4 : i < 4 := by omega
  clear hi hp
  unfold plA
  generalize p.getD 0 0 = v0 at *
  generalize p.getD 1 0 = v1 at *
  generalize p.getD 2 0 = v2 at *
  generalize p.getD 3 0 = v3 at *
  rcases (by omega : i = 0 ∨ i = 1 ∨ i = 2 ∨ i = 3) with rfl | rfl | rfl | rfl
  · have yF : Bx (((w.alloc (.cells #[.int .i64 t, .int .i64 v1, .int .i64 v2, .int .i64 v3] 92)).alloc (.cells #[.int .i64 0, .int .i64 t] 54)).alloc (.cells #[.int .i64 t, .int .i64 v1, .int .i64 v2, .int .i64 v3] 92)) (w.heap.size + 1 + 1) 92 #[.int .i64 t, .int .i64 v1, .int .i64 v2, .int .i64 v3] := Bx.newAt (by simp)
    have bF := bl_alloc (bl_alloc (bl_alloc (Below.refl w.heap.size w) (.cells #[.int .i64 t, .int .i64 v1, .int .i64 v2, .int .i64 v3] 92)) (.cells #[.int .i64 0, .int .i64 t] 54)) (.cells #[.int .i64 t, .int .i64 v1, .int .i64 v2, .int .i64 v3] 92)
    go_enter Try.func95, Try.ntmps95
    go_wp2_with (fail)
    refine bodyPost_ret (results_cell_row rfl _ _ (w.heap.size + 1 + 1) 92 _ (0, 0) _ rfl yF Try.underlying92 rfl (by kernel_rfl)) rfl ?_
    exact ⟨rfl, bF⟩
  · have yF : Bx (((w.alloc (.cells #[.int .i64 v0, .int .i64 t, .int .i64 v2, .int .i64 v3] 92)).alloc (.cells #[.int .i64 1, .int .i64 t] 54)).alloc (.cells #[.int .i64 v0, .int .i64 t, .int .i64 v2, .int .i64 v3] 92)) (w.heap.size + 1 + 1) 92 #[.int .i64 v0, .int .i64 t, .int .i64 v2, .int .i64 v3] := Bx.newAt (by simp)
    have bF := bl_alloc (bl_alloc (bl_alloc (Below.refl w.heap.size w) (.cells #[.int .i64 v0, .int .i64 t, .int .i64 v2, .int .i64 v3] 92)) (.cells #[.int .i64 1, .int .i64 t] 54)) (.cells #[.int .i64 v0, .int .i64 t, .int .i64 v2, .int .i64 v3] 92)
    go_enter Try.func95, Try.ntmps95
    go_wp2_with (fail)
    refine bodyPost_ret (results_cell_row rfl _ _ (w.heap.size + 1 + 1) 92 _ (0, 0) _ rfl yF Try.underlying92 rfl (by kernel_rfl)) rfl ?_
    exact ⟨rfl, bF⟩
  · have yF : Bx (((w.alloc (.cells #[.int .i64 v0, .int .i64 v1, .int .i64 t, .int .i64 v3] 92)).alloc (.cells #[.int .i64 2, .int .i64 t] 54)).alloc (.cells #[.int .i64 v0, .int .i64 v1, .int .i64 t, .int .i64 v3] 92)) (w.heap.size + 1 + 1) 92 #[.int .i64 v0, .int .i64 v1, .int .i64 t, .int .i64 v3] := Bx.newAt (by simp)
    have bF := bl_alloc (bl_alloc (bl_alloc (Below.refl w.heap.size w) (.cells #[.int .i64 v0, .int .i64 v1, .int .i64 t, .int .i64 v3] 92)) (.cells #[.int .i64 2, .int .i64 t] 54)) (.cells #[.int .i64 v0, .int .i64 v1, .int .i64 t, .int .i64 v3] 92)
    go_enter Try.func95, Try.ntmps95
    go_wp2_with (fail)
    refine bodyPost_ret (results_cell_row rfl _ _ (w.heap.size + 1 + 1) 92 _ (0, 0) _ rfl yF Try.underlying92 rfl (by kernel_rfl)) rfl ?_
    exact ⟨rfl, bF⟩
  · have yF : Bx (((w.alloc (.cells #[.int .i64 v0, .int .i64 v1, .int .i64 v2, .int .i64 t] 92)).alloc (.cells #[.int .i64 3, .int .i64 t] 54)).alloc (.cells #[.int .i64 v0, .int .i64 v1, .int .i64 v2, .int .i64 t] 92)) (w.heap.size + 1 + 1) 92 #[.int .i64 v0, .int .i64 v1, .int .i64 v2, .int .i64 t] := Bx.newAt (by simp)
    have bF := bl_alloc (bl_alloc (bl_alloc (Below.refl w.heap.size w) (.cells #[.int .i64 v0, .int .i64 v1, .int .i64 v2, .int .i64 t] 92)) (.cells #[.int .i64 3, .int .i64 t] 54)) (.cells #[.int .i64 v0, .int .i64 v1, .int .i64 v2, .int .i64 t] 92)
    go_enter Try.func95, Try.ntmps95
    go_wp2_with (fail)
    refine bodyPost_ret (results_cell_row rfl _ _ (w.heap.size + 1 + 1) 92 _ (0, 0) _ rfl yF Try.underlying92 rfl (by kernel_rfl)) rfl ?_
    exact ⟨rfl, bF⟩
end Go.Proofs.Ytjgpfnnokdcgoaa
