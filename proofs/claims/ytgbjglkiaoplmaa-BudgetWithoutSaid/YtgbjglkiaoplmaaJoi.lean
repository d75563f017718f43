/- slices.Grow and slices.Concat at items; two budgets together: package budget's Join and the document's. -/
import Derived.Test.YtgbjglkiaoplmaaScl
import Derived.Shelf.Spec.SlicesGrow
namespace Go.Proofs.Ytgbjglkiaoplmaa
open Go.RowKit Go.Shelf

set_option maxRecDepth 100000 in
set_option maxHeartbeats 1000000 in
theorem growI_c (n : Nat) (hn : n ≤ 100) (w : World) :
    Calls Try.prog 110 #[.slice none 0 0, .int .i64 n] w fun e w' => ∃ A' c, e = .returned (.slice A' 0 c) ∧ w'.ownsRow w.heap.size 50 3 (.slice A' 0 c) 0 (cellsI []) ∧ Below w.heap.size w w' := by
  by_cases h0 : n = 0
  · subst h0
    go_enter Try.func110, Try.ntmps110
    go_wp2_with (fail)
    go_ret
    exact ⟨none, 0, rfl, World.ownsRow_nil _ _ _ _, Below.refl _ _⟩
  · obtain ⟨i0, hi, hz0, hz1, hz2⟩ := info_parts item_info
    have hge := grownCap_ge w (0 + n) 0 50
    have hle := grownCap_le_maxLen w (0 + n) 0 50 (by unfold maxLen; omega)
    have hrun : ∀ ty, (Builtin.append_ #[22, 3] ty #[.slice none 0 0, .int .i64 (n : Int)]).run Try.prog w =
        .ok (.slice (some ⟨w.heap.size, 0, none⟩) (0 + n) (grownCap w (0 + n) 0 50)) (w.drew.alloc (.cells (#[] ++ Builtin.zeroCells (Value.agg #[.int .i64 0, .int .i64 0, .int .i64 0]).cells n ++ Builtin.zeroCells (Value.agg #[.int .i64 0, .int .i64 0, .int .i64 0]).cells (grownCap w (0 + n) 0 50 - (0 + n))) 50)) := fun ty =>
      Lib.run_append_grow_zeros w 22 3 ty 50 i0 _ .i64 .i64 Try.underlying22 Try.underlying3 hi hz0 none 0 0 [] (run_firstCells_none w.drew i0.size 0 0 0) n (by omega) (by omega) (by omega) (by omega) (by rw [hz2]; omega) (by exact growslice_fits (by omega) (by rw [hz2]; omega))
    have E1 := Lib.hid hrun
    have hno : ¬ ((n : Int) < 0) := by omega
    have hpo : (n : Int) > 0 := by omega
    have hpo2 : (0 : Int) < (n : Int) := by omega
    clear hrun
    have hown := World.ownsRow_made (e := 50) (size := 3) w.drew (#[] ++ Builtin.zeroCells (Value.agg #[.int .i64 0, .int .i64 0, .int .i64 0]).cells n ++ Builtin.zeroCells (Value.agg #[.int .i64 0, .int .i64 0, .int .i64 0]).cells (grownCap w (0 + n) 0 50 - (0 + n))) (grownCap w (0 + n) 0 50) (base := w.heap.size) (Nat.le_refl _) hle (by
      simp only [Array.size_append, size_zeroCells, Value.cells, List.size_toArray, List.length_nil]
      show 0 + n * 3 + (grownCap w (0 + n) 0 50 - (0 + n)) * 3 = _
      omega)
    have hbl : Below w.heap.size w (w.drew.alloc (.cells (#[] ++ Builtin.zeroCells (Value.agg #[.int .i64 0, .int .i64 0, .int .i64 0]).cells n ++ Builtin.zeroCells (Value.agg #[.int .i64 0, .int .i64 0, .int .i64 0]).cells (grownCap w (0 + n) 0 50 - (0 + n))) 50)) := bl_alloc (Below.refl w.heap.size w).drew _
    generalize w.drew.alloc (.cells (#[] ++ Builtin.zeroCells (Value.agg #[.int .i64 0, .int .i64 0, .int .i64 0]).cells n ++ Builtin.zeroCells (Value.agg #[.int .i64 0, .int .i64 0, .int .i64 0]).cells (grownCap w (0 + n) 0 50 - (0 + n))) 50) = w2 at *
    generalize grownCap w (0 + n) 0 50 = gc at *
    go_enter Try.func110, Try.ntmps110
    go_wp2_with (at_builtin; refine Lib.wpList_append_run _ rfl _ _ _ _ rfl _ _ rfl rfl _ _ (E1.out _) ?_)
    all_goals (go_ret; exact ⟨_, _, rfl, hown, hbl⟩)

set_option maxRecDepth 100000 in
set_option maxHeartbeats 1000000 in
theorem concatI_c (A B : Option Addr) (p q : List It) (cap cap' g c : Nat) (w : World) (hp : p.length ≤ 40) (hq : q.length ≤ 40) (hx : Bx w g 22 #[.slice A p.length cap, .slice B q.length cap'])
    (hr : Rd w A (cellsI p)) (hs : Rd w B (cellsI q)) :
    Calls Try.prog 96 #[.slice (some ⟨g, 0, none⟩) 2 c] w fun e w' => ∃ A' c', e = .returned (.slice A' (p.length + q.length) c') ∧ w'.ownsRow w.heap.size 50 3 (.slice A' (p.length + q.length) c') (p.length + q.length) (cellsI (p ++ q)) ∧ Below w.heap.size w w' := by
  obtain ⟨i0, hi, hz0, hz1, hz2⟩ := info_parts item_info
  obtain ⟨i1, i2, i3, i4⟩ := hx.two
  have hgr := fun w1 => Lib.hid (growI_c (p.length + q.length) (by omega) w1)
  go_enter Try.func96, Try.ntmps96
  go_wp2_with (fail)
  go_loop [3, 11] (fun s i => (i = .int .i64 0 ∧ s = .int .i64 0) ∨ (i = .int .i64 1 ∧ s = .int .i64 p.length) ∨ (i = .int .i64 2 ∧ s = .int .i64 ((p.length + q.length : Nat) : Int))) (fun _ i => 2 - (intOf i).toNat)
  case atStart => exact .inl ⟨rfl, rfl⟩
  case round =>
    rcases hrel with ⟨rfl, rfl⟩ | ⟨rfl, rfl⟩ | ⟨rfl, rfl⟩
    · have hn : ¬ ((p.length : Int) < 0) := by omega
      go_wp2_with (fail)
      go_round
      case rel => exact .inr (.inl ⟨rfl, by go_num⟩)
      case measure => simp [intOf]
    · have hn : ¬ ((p.length : Int) + (q.length : Int) < 0) := by omega
      go_wp2_with (fail)
      go_round
      case rel => exact .inr (.inr ⟨rfl, by go_num⟩)
      case measure => simp [intOf]
    · go_wp2_with (fail)
      refine (hgr w).out.mono ?_
      rintro e w1 ⟨A1, c1, rfl, hown1, hb1⟩
      have hx1 := hx.call hb1
      have hr1 := hr.later hb1
      have hs1 := hs.later hb1
      clear hgr i1 i2 i3 i4
      go_wp2_with (fail)
      go_loopw [6, 27] (fun v i wr => ((i = .int .i64 0 ∧ wr.ownsRow w.heap.size 50 3 v 0 (cellsI [])) ∨ (i = .int .i64 1 ∧ wr.ownsRow w.heap.size 50 3 v p.length (cellsI p)) ∨ (i = .int .i64 2 ∧ wr.ownsRow w.heap.size 50 3 v (p.length + q.length) (cellsI (p ++ q)))) ∧ Below w.heap.size w wr) (fun _ i _ => 2 - (intOf i).toNat)
      case atStart => exact ⟨.inl ⟨rfl, hown1⟩, hb1⟩
      case round =>
        obtain ⟨hrel, hb⟩ := hrel
        have hxr := hx.call hb
        obtain ⟨j1, j2, j3, j4⟩ := hxr.two
        have hrr := hr.later hb
        have hsr := hs.later hb
        clear hx1 hr1 hs1 hown1
        rcases hrel with ⟨rfl, hown⟩ | ⟨rfl, hown⟩ | ⟨rfl, hown⟩
        · obtain ⟨A', c', w2, hrun, hown2, hg2⟩ := run_append_rows (P := Try.prog) wr w.heap.size 22 50 i0 _ 3 24 Try.underlying22 hi hz0 hz1 hz2 rfl (by decide) _ 0 (cellsI []) hown A p.length cap (cellsI p) (by simp) (cellsI_one _) hrr (by unfold maxLen; omega) (by omega) hb.size
          have E1 := Lib.hid hrun
          clear hrun
          go_wp2_with (at_builtin; refine wpList_append_eq rfl _ _ 22 rfl _ _ _ w2 rfl rfl E1.out ?_)
          have hb2 : Below w.heap.size w w2 := hb.trans (grown_below hown hg2 hb.size)
          try simp only [Nat.zero_add] at hown2 E1
          have hown3 : w2.ownsRow w.heap.size 50 3 (.slice A' p.length c') p.length (cellsI p) := hown2
          clear hown hg2 hown2
          go_wp2_with (fail)
          go_roundw
          case rel => exact ⟨.inr (.inl ⟨rfl, hown3⟩), hb2⟩
          case measure => simp [intOf]
        · obtain ⟨A', c', w2, hrun, hown2, hg2⟩ := run_append_rows (P := Try.prog) wr w.heap.size 22 50 i0 _ 3 24 Try.underlying22 hi hz0 hz1 hz2 rfl (by decide) _ p.length (cellsI p) hown B q.length cap' (cellsI q) (by simp) (cellsI_one _) hsr (by unfold maxLen; omega) (by omega) hb.size
          have E1 := Lib.hid hrun
          clear hrun
          go_wp2_with (at_builtin; refine wpList_append_eq rfl _ _ 22 rfl _ _ _ w2 rfl rfl E1.out ?_)
          have hb2 : Below w.heap.size w w2 := hb.trans (grown_below hown hg2 hb.size)
          have hown3 : w2.ownsRow w.heap.size 50 3 (.slice A' (p.length + q.length) c') (p.length + q.length) (cellsI (p ++ q)) := by
            rw [cellsI_app]; exact hown2
          clear hown hg2 hown2
          go_wp2_with (fail)
          go_roundw
          case rel => exact ⟨.inr (.inr ⟨rfl, hown3⟩), hb2⟩
          case measure => simp [intOf]
        · obtain ⟨A', c', rfl⟩ := own_form hown
          go_wp2_with (fail)
          go_ret
          exact ⟨A', c', rfl, hown, hb⟩


def joinE (l m : List It) : Int := if valE l = 0 then (if valE m = 0 then (if 6 < l.length + m.length then 3 else 0) else valE m) else valE l
def joinG (l m : List It) : List It := if joinE l m = 0 then l ++ m else []
theorem join_cases (l m : List It) : (valE l ≠ 0 ∧ joinE l m = valE l ∧ joinG l m = []) ∨ (valE l = 0 ∧ valE m ≠ 0 ∧ joinE l m = valE m ∧ joinG l m = []) ∨ (valE l = 0 ∧ valE m = 0 ∧ 6 < l.length + m.length ∧ joinE l m = 3 ∧ joinG l m = []) ∨ (valE l = 0 ∧ valE m = 0 ∧ l.length + m.length ≤ 6 ∧ joinE l m = 0 ∧ joinG l m = l ++ m) := by
  by_cases h1 : valE l = 0
  · by_cases h2 : valE m = 0
    · by_cases h3 : 6 < l.length + m.length
      · have h : joinE l m = 3 := by rw [joinE, if_pos h1, if_pos h2, if_pos h3]
        exact .inr (.inr (.inl ⟨h1, h2, h3, h, by rw [joinG, h]; rfl⟩))
      · have h : joinE l m = 0 := by rw [joinE, if_pos h1, if_pos h2, if_neg h3]
        exact .inr (.inr (.inr ⟨h1, h2, by omega, h, by rw [joinG, if_pos h]⟩))
    · have h : joinE l m = valE m := by rw [joinE, if_pos h1, if_neg h2]
      exact .inr (.inl ⟨h1, h2, h, by rw [joinG, h, if_neg h2]⟩)
  · have h : joinE l m = valE l := by rw [joinE, if_neg h1]
    exact .inl ⟨h1, h, by rw [joinG, h, if_neg h1]⟩

set_option maxRecDepth 100000 in
set_option maxHeartbeats 1000000 in
theorem Join_c (A B : Option Addr) (l m : List It) (c d : Nat) (w : World) (hlen : l.length ≤ 1000) (hlen' : m.length ≤ 1000) (hr : Rd w A (cellsI l)) (hs : Rd w B (cellsI m)) :
    Calls Try.prog 53 #[.slice A l.length c, .slice B m.length d] w (OutIt (joinG l m) (joinE l m) w) := by
  have H1 := Lib.hid (Validate_c A l c w hlen hr)
  have H2 := fun w1 h => Lib.hid (Validate_c B m d w1 hlen' h)
  rcases join_cases l m with ⟨h1, h2, h3⟩ | ⟨h1, h1', h2, h3⟩ | ⟨h1, h1', h4, h2, h3⟩ | ⟨h1, h1', h4, h2, h3⟩
  · have hv' : (valE l == 0) = false := by rw [beq_eq_false_iff_ne]; exact h1
    rw [h2, h3]
    clear h2 h3 H2
    generalize valE l = ev at *
    go_enter Try.func53, Try.ntmps53
    go_wp2_with (go_at_call 24; refine H1.out.mono ?_; rintro e w1 ⟨rfl, hb1⟩)
    go_ret2
    exact ⟨none, 0, rfl, World.ownsRow_nil _ _ _ _, hb1⟩
  · have hv' : (valE m == 0) = false := by rw [beq_eq_false_iff_ne]; exact h1'
    rw [h2, h3]
    rw [h1] at H1
    clear h1 h2 h3
    generalize valE m = ev at *
    go_enter Try.func53, Try.ntmps53
    go_wp2_with (first | (go_at_call 24; refine H1.out.mono ?_; rintro e w1 ⟨rfl, hb1⟩; clear H1) | (go_at_call 24; refine (H2 _ (hs.later hb1)).out.mono ?_; rintro e w2 ⟨rfl, hb2⟩))
    go_ret2
    exact ⟨none, 0, rfl, World.ownsRow_nil _ _ _ _, bl_call hb1 hb2⟩
  · have h4' : (6 : Int) < (l.length : Int) + (m.length : Int) := by omega
    rw [h2, h3]
    rw [h1] at H1
    rw [h1'] at H2
    clear h1 h2 h3 h1'
    go_enter Try.func53, Try.ntmps53
    go_wp2_with (first | (go_at_call 24; refine H1.out.mono ?_; rintro e w1 ⟨rfl, hb1⟩; clear H1) | (go_at_call 24; refine (H2 _ (hs.later hb1)).out.mono ?_; rintro e w2 ⟨rfl, hb2⟩))
    go_ret2
    exact ⟨none, 0, rfl, World.ownsRow_nil _ _ _ _, bl_call hb1 hb2⟩
  · have h4' : ¬ (6 : Int) < (l.length : Int) + (m.length : Int) := by omega
    have HGl : Hid ((l ++ m).length = l.length + m.length) := by show _ = _; simp
    have HC := fun g w1 (hx : Bx w1 g 22 #[.slice A l.length c, .slice B m.length d]) h1 h2 => Lib.hid (concatI_c A B l m c d g 2 w1 (by omega) (by omega) hx h1 h2)
    rw [h2, h3]
    rw [h1] at H1
    rw [h1'] at H2
    clear h1 h2 h3 h1'
    go_enter Try.func53, Try.ntmps53
    go_wp2_with (first | (go_at_call 24; refine H1.out.mono ?_; rintro e w1 ⟨rfl, hb1⟩; clear H1) | (go_at_call 24; refine (H2 _ (hs.later hb1)).out.mono ?_; rintro e w2 ⟨rfl, hb2⟩))
    have hb12 := bl_call hb1 hb2
    have hal : Below w2.heap.size w2 (w2.alloc (.cells #[.slice A l.length c, .slice B m.length d] 22)) := bl_alloc (Below.refl _ _) _
    refine (HC w2.heap.size _ (Bx.new w2 _ _) ((hr.later hb12).later hal) ((hs.later hb12).later hal)).out.mono ?_
    rintro e w3 ⟨A3, c3, rfl, ho3, hb3⟩
    go_wp2_with (fail)
    go_ret2
    exact ⟨A3, c3, by rw [HGl.out]; rfl, by rw [HGl.out]; exact own_base ho3 (by have := hb12.size; have := hal.size; omega), bl_call hb12 (bl_call hal hb3)⟩

set_option maxRecDepth 100000 in
set_option maxHeartbeats 1000000 in
theorem rJoin_c (A B : Option Addr) (l m : List It) (c d : Nat) (w : World) (hlen : l.length ≤ 1000) (hlen' : m.length ≤ 1000) (hr : Rd w A (cellsI l)) (hs : Rd w B (cellsI m)) :
    Calls Try.prog 54 #[.slice A l.length c, .slice B m.length d] w (OutIt (joinG l m) (joinE l m) w) := by
  obtain ⟨i0, hi, hz0, hz1, hz2⟩ := info_parts item_info
  have H1 := Lib.hid (rValidate_c A l c w hlen hr)
  have H2 := fun w1 h => Lib.hid (rValidate_c B m d w1 hlen' h)
  rcases join_cases l m with ⟨h1, h2, h3⟩ | ⟨h1, h1', h2, h3⟩ | ⟨h1, h1', h4, h2, h3⟩ | ⟨h1, h1', h4, h2, h3⟩
  · have hv' : (valE l == 0) = false := by rw [beq_eq_false_iff_ne]; exact h1
    rw [h2, h3]
    clear h2 h3 H2
    generalize valE l = ev at *
    go_enter Try.func54, Try.ntmps54
    go_wp2_with (go_at_call 25; refine H1.out.mono ?_; rintro e w1 ⟨rfl, hb1⟩)
    go_ret2
    exact ⟨none, 0, rfl, World.ownsRow_nil _ _ _ _, hb1⟩
  · have hv' : (valE m == 0) = false := by rw [beq_eq_false_iff_ne]; exact h1'
    rw [h2, h3]
    rw [h1] at H1
    clear h1 h2 h3
    generalize valE m = ev at *
    go_enter Try.func54, Try.ntmps54
    go_wp2_with (first | (go_at_call 25; refine H1.out.mono ?_; rintro e w1 ⟨rfl, hb1⟩; clear H1) | (go_at_call 25; refine (H2 _ (hs.later hb1)).out.mono ?_; rintro e w2 ⟨rfl, hb2⟩))
    go_ret2
    exact ⟨none, 0, rfl, World.ownsRow_nil _ _ _ _, bl_call hb1 hb2⟩
  · have h4' : (6 : Int) < (l.length : Int) + (m.length : Int) := by omega
    rw [h2, h3]
    rw [h1] at H1
    rw [h1'] at H2
    clear h1 h2 h3 h1'
    go_enter Try.func54, Try.ntmps54
    go_wp2_with (first | (go_at_call 25; refine H1.out.mono ?_; rintro e w1 ⟨rfl, hb1⟩; clear H1) | (go_at_call 25; refine (H2 _ (hs.later hb1)).out.mono ?_; rintro e w2 ⟨rfl, hb2⟩))
    go_ret2
    exact ⟨none, 0, rfl, World.ownsRow_nil _ _ _ _, bl_call hb1 hb2⟩
  · have h4' : ¬ (6 : Int) < (l.length : Int) + (m.length : Int) := by omega
    have HGl : Hid ((l ++ m).length = l.length + m.length) := by show _ = _; simp
    rw [h2, h3]
    rw [h1] at H1
    rw [h1'] at H2
    clear h1 h2 h3 h1'
    go_enter Try.func54, Try.ntmps54
    go_wp2_with (fail)
    refine H1.out.mono ?_
    rintro e w1 ⟨rfl, hb1⟩
    go_wp2_with (fail)
    refine (H2 _ (hs.later hb1)).out.mono ?_
    rintro e w3 ⟨rfl, hb2⟩
    have hb12 := bl_call hb1 hb2
    have hr3 := hr.later hb12
    have hs3 := hs.later hb12
    have hb0 : Below w3.heap.size w3 (w3.alloc (.cells #[] 50)) := bl_alloc (Below.refl _ _) _
    have ho0 : (w3.alloc (.cells #[] 50)).ownsRow w3.heap.size 50 3 (.slice (some ⟨w3.heap.size, 0, none⟩) 0 0) 0 (cellsI []) := World.ownsRow_made (e := 50) (size := 3) w3 #[] 0 (Nat.le_refl _) (by decide) rfl
    obtain ⟨A1, c1, w4, hrun, ho4, hg4⟩ := run_append_rows (P := Try.prog) (w3.alloc (.cells #[] 50)) w3.heap.size 22 50 i0 _ 3 24 Try.underlying22 hi hz0 hz1 hz2 rfl (by decide) _ 0 (cellsI []) ho0 A l.length c (cellsI l) (by simp) (cellsI_one _) (hr3.later hb0) (by unfold maxLen; omega) (by omega) hb0.size
    have E1 := Lib.hid hrun
    clear hrun
    have hb4 : Below w3.heap.size w3 w4 := hb0.trans (grown_below ho0 hg4 hb0.size)
    try simp only [Nat.zero_add] at ho4 E1
    have ho4' : w4.ownsRow w3.heap.size 50 3 (.slice A1 l.length c1) l.length (cellsI l) := ho4
    clear hg4 ho4 ho0 hb0
    obtain ⟨A2, c2, w5, hrun, ho5, hg5⟩ := run_append_rows (P := Try.prog) w4 w3.heap.size 22 50 i0 _ 3 24 Try.underlying22 hi hz0 hz1 hz2 rfl (by decide) _ l.length (cellsI l) ho4' B m.length d (cellsI m) (by simp) (cellsI_one _) (hs3.later hb4) (by unfold maxLen; omega) (by omega) hb4.size
    have E2 := Lib.hid hrun
    clear hrun
    go_wp2_with (first | (at_builtin; refine wpList_append_eq rfl _ _ 22 rfl _ _ _ w4 rfl rfl E1.out ?_) | (at_builtin; refine wpList_append_eq rfl _ _ 22 rfl _ _ _ w5 rfl rfl E2.out ?_))
    have hb5 : Below w3.heap.size w3 w5 := hb4.trans (grown_below ho4' hg5 hb4.size)
    have ho5' : w5.ownsRow w3.heap.size 50 3 (.slice A2 (l.length + m.length) c2) (l.length + m.length) (cellsI (l ++ m)) := by rw [cellsI_app]; exact ho5
    clear ho5 hg5 ho4'
    go_ret2
    exact ⟨A2, c2, by rw [HGl.out]; rfl, by rw [HGl.out]; exact own_base ho5' hb12.size, bl_call hb12 hb5⟩
end Go.Proofs.Ytgbjglkiaoplmaa
