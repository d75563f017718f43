/- slices.Grow and slices.Concat at lists of gates; Join, package circuit's and the document's. -/
import Derived.Test.YteoajadcdjaalaaShelfG
import Derived.Test.YteoajadcdjaalaaAlikeW
import Derived.Shelf.Spec.SlicesGrow
namespace Go.Proofs.Yteoajadcdjaalaa
open Go.RowKit Go.Shelf

set_option maxRecDepth 100000 in
theorem growG_c (n : Nat) (hn : n ≤ 100) (w : World) :
    Calls Try.prog 98 #[.slice none 0 0, .int .i64 n] w fun e w' => ∃ A' c, e = .returned (.slice A' 0 c) ∧ w'.ownsRow w.heap.size 23 4 (.slice A' 0 c) 0 (cellsG []) ∧ Below w.heap.size w w' := by
  by_cases h0 : n = 0
  · subst h0
    exact (Any8.slices_Grow_room Try.growG none 0 0 0 w (by omega) (by omega) (by omega) (by omega)).mono fun e w' ⟨he, hw⟩ => ⟨none, 0, he, World.ownsRow_nil _ _ _ _, by rw [hw]; exact Below.refl _ _⟩
  · obtain ⟨i0, hi, hz0, hz1, hz2⟩ := info_parts gate_info
    refine (Any8.slices_Grow_grow Try.growG i0 _ hi hz0 (by omega) none 0 0 n [] w (by omega) (by omega) (by rw [hz2]; omega) (by omega) (by simp) (fun _ => rfl) (fun a e => by cases e)).mono fun e w' ⟨he, hw⟩ => ?_
    have hge := grownCap_ge w (0 + n) 0 23
    have hle := grownCap_le_maxLen w (0 + n) 0 23 (by unfold maxLen; omega)
    refine ⟨some ⟨w.heap.size, 0, none⟩, grownCap w (0 + n) 0 23, he, ?_, ?_⟩
    · rw [hw]
      refine World.ownsRow_made (e := 23) (size := 4) w.drew _ _ (Nat.le_refl _) hle ?_
      simp only [Array.size_append, size_zeroCells, Value.cells, List.size_toArray, List.length_nil]
      show 0 + (0 + n - 0) * 4 + (grownCap w (0 + n) 0 23 - (0 + n)) * 4 = _
      omega
    · rw [hw]; exact bl_alloc (Below.refl w.heap.size w).drew _

set_option maxRecDepth 100000 in
set_option maxHeartbeats 1000000 in
theorem concatG_c (A B : Option Addr) (p q : List G) (cap cap' g c : Nat) (w : World) (hp : p.length ≤ 40) (hq : q.length ≤ 40) (hx : Bx w g 29 #[.slice A p.length cap, .slice B q.length cap'])
    (hr : Rd w A (cellsG p)) (hs : Rd w B (cellsG q)) :
    Calls Try.prog 81 #[.slice (some ⟨g, 0, none⟩) 2 c] w fun e w' => ∃ A' c', e = .returned (.slice A' (p.length + q.length) c') ∧ w'.ownsRow w.heap.size 23 4 (.slice A' (p.length + q.length) c') (p.length + q.length) (cellsG (p ++ q)) ∧ Below w.heap.size w w' := by
  obtain ⟨i0, hi, hz0, hz1, hz2⟩ := info_parts gate_info
  obtain ⟨i1, i2, i3, i4⟩ := hx.two
  have hgr := fun w1 => Lib.hid (growG_c (p.length + q.length) (by omega) w1)
  go_enter Try.func81, Try.ntmps81
  go_wp2_with (fail)
  go_loop [3, 11] (fun s i => (i = .int .i64 0 ∧ s = .int .i64 0) ∨ (i = .int .i64 1 ∧ s = .int .i64 p.length) ∨ (i = .int .i64 2 ∧ s = .int .i64 ((p.length + q.length : Nat) : Int))) (fun _ i => 2 - (intOf i).toNat)
  case atStart => exact .inl ⟨rfl, rfl⟩
  case round =>
    rcases hrel with ⟨rfl, rfl⟩ | ⟨rfl, rfl⟩ | ⟨rfl, rfl⟩
    · have hn : ¬ ((p.length : Int) < 0) := by omega
      go_wp2_with (fail)
      go_round
      case rel => exact .inr (.inl ⟨rfl, by go_num⟩)
      case measure => simp [intOf]
    · have hn : ¬ ((p.length : Int) + (q.length : Int) < 0) := by omega
      go_wp2_with (fail)
      go_round
      case rel => exact .inr (.inr ⟨rfl, by go_num⟩)
      case measure => simp [intOf]
    · go_wp2_with (fail)
      refine (hgr w).out.mono ?_
      rintro e w1 ⟨A1, c1, rfl, hown1, hb1⟩
      have hx1 := hx.call hb1
      have hr1 := hr.later hb1
      have hs1 := hs.later hb1
      clear hgr i1 i2 i3 i4
      go_wp2_with (fail)
      go_loopw [6, 27] (fun v i wr => ((i = .int .i64 0 ∧ wr.ownsRow w.heap.size 23 4 v 0 (cellsG [])) ∨ (i = .int .i64 1 ∧ wr.ownsRow w.heap.size 23 4 v p.length (cellsG p)) ∨ (i = .int .i64 2 ∧ wr.ownsRow w.heap.size 23 4 v (p.length + q.length) (cellsG (p ++ q)))) ∧ Below w.heap.size w wr) (fun _ i _ => 2 - (intOf i).toNat)
      case atStart => exact ⟨.inl ⟨rfl, hown1⟩, hb1⟩
      case round =>
        obtain ⟨hrel, hb⟩ := hrel
        have hxr := hx.call hb
        obtain ⟨j1, j2, j3, j4⟩ := hxr.two
        have hrr := hr.later hb
        have hsr := hs.later hb
        clear hx1 hr1 hs1 hown1
        rcases hrel with ⟨rfl, hown⟩ | ⟨rfl, hown⟩ | ⟨rfl, hown⟩
        · go_wp2_with (at_builtin; refine wpList_append_any rfl _ _ 29 rfl w.heap.size 23 i0 _ 32 Try.underlying29 hi hz0 hz1 hz2 rfl _ 0 (cellsG []) rfl hown A p cap rfl hrr (by unfold maxLen; omega) (by omega) hb.size ?_)
          intro A' c' w2 hown2 hg2
          have hb2 : Below w.heap.size w w2 := hb.trans (grown_below hown hg2 hb.size)
          try simp only [Nat.zero_add] at hown2
          have hown3 : w2.ownsRow w.heap.size 23 4 (.slice A' p.length c') p.length (cellsG p) := hown2
          clear hown hg2 hown2
          go_wp2_with (fail)
          go_roundw
          case rel => exact ⟨.inr (.inl ⟨rfl, hown3⟩), hb2⟩
          case measure => simp [intOf]
        · go_wp2_with (at_builtin; refine wpList_append_any rfl _ _ 29 rfl w.heap.size 23 i0 _ 32 Try.underlying29 hi hz0 hz1 hz2 rfl _ p.length (cellsG p) rfl hown B q cap' rfl hsr (by unfold maxLen; omega) (by omega) hb.size ?_)
          intro A' c' w2 hown2 hg2
          have hb2 : Below w.heap.size w w2 := hb.trans (grown_below hown hg2 hb.size)
          have hown3 : w2.ownsRow w.heap.size 23 4 (.slice A' (p.length + q.length) c') (p.length + q.length) (cellsG (p ++ q)) := by
            rw [cellsG_append]; exact hown2
          clear hown hg2 hown2
          go_wp2_with (fail)
          go_roundw
          case rel => exact ⟨.inr (.inr ⟨rfl, hown3⟩), hb2⟩
          case measure => simp [intOf]
        · obtain ⟨A', c', rfl⟩ := own_form hown
          go_wp2_with (fail)
          go_ret
          exact ⟨A', c', rfl, hown, hb⟩

def joinE (n : Int) (l m : List G) : Int := if bothE n l m = 0 then (if 10 < l.length + m.length then 3 else 0) else bothE n l m
def joinG (n : Int) (l m : List G) : List G := if joinE n l m = 0 then l ++ m else []
theorem joinE_zero {n : Int} {l m : List G} (h : joinE n l m = 0) : bothE n l m = 0 ∧ l.length + m.length ≤ 10 ∧ joinG n l m = l ++ m := by
  have hj : joinG n l m = l ++ m := by rw [joinG, if_pos h]
  rw [joinE] at h
  split at h
  · rename_i h0
    split at h
    · cases h
    · exact ⟨h0, by omega, hj⟩
  · rename_i h0
    exact absurd h h0

set_option maxRecDepth 100000 in
theorem Join_c (n : Int) (A B : Option Addr) (l m : List G) (c d : Nat) (w : World) (hlen : l.length ≤ 1000) (hlen' : m.length ≤ 1000) (hr : Rd w A (cellsG l)) (hs : Rd w B (cellsG m)) :
    Calls Try.prog 48 #[.int .i64 n, .slice A l.length c, .slice B m.length d] w (OutG (joinG n l m) (joinE n l m) w) := by
  have HV := Lib.hid (validateBoth_c n A B l m c d w hlen hlen' hr hs)
  by_cases hv : bothE n l m = 0
  · by_cases h10 : 10 < l.length + m.length
    · have hE : joinE n l m = 3 := by rw [joinE, if_pos hv, if_pos h10]
      have hG : joinG n l m = [] := by rw [joinG, hE]; rfl
      rw [hE, hG]
      rw [hv] at HV
      have h10' : (10 : Int) < (l.length : Int) + (m.length : Int) := by omega
      go_enter Try.func48, Try.ntmps48
      go_wp2_with (go_at_call 59; refine HV.out.mono ?_; rintro e w1 ⟨rfl, hb1⟩)
      go_ret2
      exact ⟨none, 0, rfl, World.ownsRow_nil _ _ _ _, hb1⟩
    · have hE : joinE n l m = 0 := by rw [joinE, if_pos hv, if_neg h10]
      have hG : joinG n l m = l ++ m := by rw [joinG, if_pos hE]
      have HGl : Hid ((l ++ m).length = l.length + m.length) := by show _ = _; simp
      rw [hE, hG]
      rw [hv] at HV
      have h10' : ¬ (10 : Int) < (l.length : Int) + (m.length : Int) := by omega
      have HC := fun g w1 (hx : Bx w1 g 29 #[.slice A l.length c, .slice B m.length d]) h1 h2 => Lib.hid (concatG_c A B l m c d g 2 w1 (by omega) (by omega) hx h1 h2)
      go_enter Try.func48, Try.ntmps48
      go_wp2_with (go_at_call 59; refine HV.out.mono ?_; rintro e w1 ⟨rfl, hb1⟩)
      have hal : Below w1.heap.size w1 (w1.alloc (.cells #[.slice A l.length c, .slice B m.length d] 29)) := bl_alloc (Below.refl _ _) _
      refine (HC w1.heap.size _ (Bx.new w1 _ _) ((hr.later hb1).later hal) ((hs.later hb1).later hal)).out.mono ?_
      rintro e w2 ⟨A2, c2, rfl, ho2, hb2⟩
      go_wp2_with (fail)
      go_ret2
      exact ⟨A2, c2, by rw [HGl.out]; rfl, by rw [HGl.out]; exact own_base ho2 (by have := hb1.size; have := hal.size; omega), bl_call hb1 (bl_call hal hb2)⟩
  · have hE : joinE n l m = bothE n l m := by rw [joinE, if_neg hv]
    have hG : joinG n l m = [] := by rw [joinG, hE, if_neg hv]
    rw [hE, hG]
    generalize bothE n l m = ev at *
    go_enter Try.func48, Try.ntmps48
    go_wp2_with (go_at_call 59; refine HV.out.mono ?_; rintro e w1 ⟨rfl, hb1⟩)
    go_ret2
    exact ⟨none, 0, rfl, World.ownsRow_nil _ _ _ _, hb1⟩

set_option maxRecDepth 100000 in
set_option maxHeartbeats 1000000 in
theorem rJoin_c (n : Int) (A B : Option Addr) (l m : List G) (c d : Nat) (w : World) (hlen : l.length ≤ 1000) (hlen' : m.length ≤ 1000) (hr : Rd w A (cellsG l)) (hs : Rd w B (cellsG m)) :
    Calls Try.prog 49 #[.int .i64 n, .slice A l.length c, .slice B m.length d] w (OutG (joinG n l m) (joinE n l m) w) := by
  obtain ⟨i0, hi, hz0, hz1, hz2⟩ := info_parts gate_info
  have HV := Lib.hid (two_c n A B l m c d w hlen hlen' hr hs)
  by_cases hv : bothE n l m = 0
  · by_cases h10 : 10 < l.length + m.length
    · have hE : joinE n l m = 3 := by rw [joinE, if_pos hv, if_pos h10]
      have hG : joinG n l m = [] := by rw [joinG, hE]; rfl
      rw [hE, hG]
      rw [hv] at HV
      have h10' : (10 : Int) < (l.length : Int) + (m.length : Int) := by omega
      go_enter Try.func49, Try.ntmps49
      go_wp2_with (go_at_call 62; refine HV.out.mono ?_; rintro e w1 ⟨rfl, hb1⟩)
      go_ret2
      exact ⟨none, 0, rfl, World.ownsRow_nil _ _ _ _, hb1⟩
    · have hE : joinE n l m = 0 := by rw [joinE, if_pos hv, if_neg h10]
      have hG : joinG n l m = l ++ m := by rw [joinG, if_pos hE]
      have HGl : Hid ((l ++ m).length = l.length + m.length) := by show _ = _; simp
      rw [hE, hG]
      rw [hv] at HV
      have h10' : ¬ (10 : Int) < (l.length : Int) + (m.length : Int) := by omega
      go_enter Try.func49, Try.ntmps49
      go_wp2_with (fail)
      refine HV.out.mono ?_
      rintro e w3 ⟨rfl, hb3⟩
      have hr3 := hr.later hb3
      have hs3 := hs.later hb3
      have hb0 : Below w3.heap.size w3 (w3.alloc (.cells #[] 23)) := bl_alloc (Below.refl _ _) _
      have ho0 : (w3.alloc (.cells #[] 23)).ownsRow w3.heap.size 23 4 (.slice (some ⟨w3.heap.size, 0, none⟩) 0 0) 0 (cellsG []) := World.ownsRow_made (e := 23) (size := 4) w3 #[] 0 (Nat.le_refl _) (by decide) rfl
      go_wp2_with (at_builtin; refine wpList_append_any rfl _ _ 29 rfl w3.heap.size 23 i0 _ 32 Try.underlying29 hi hz0 hz1 hz2 rfl _ 0 (cellsG []) rfl ho0 A l c rfl (hr3.later hb0) (by unfold maxLen; omega) (by omega) (by simp) ?_)
      intro A1 c1 w4 ho4 hg4
      have hb4 : Below w3.heap.size w3 w4 := hb0.trans (grown_below ho0 hg4 (by simp))
      try simp only [Nat.zero_add] at ho4
      have ho4' : w4.ownsRow w3.heap.size 23 4 (.slice A1 l.length c1) l.length (cellsG l) := ho4
      clear hg4 ho4 ho0 hb0
      go_wp2_with (at_builtin; refine wpList_append_any rfl _ _ 29 rfl w3.heap.size 23 i0 _ 32 Try.underlying29 hi hz0 hz1 hz2 rfl _ l.length (cellsG l) rfl ho4' B m d rfl (hs3.later hb4) (by unfold maxLen; omega) (by omega) hb4.size ?_)
      intro A2 c2 w5 ho5 hg5
      have hb5 : Below w3.heap.size w3 w5 := hb4.trans (grown_below ho4' hg5 hb4.size)
      have ho5' : w5.ownsRow w3.heap.size 23 4 (.slice A2 (l.length + m.length) c2) (l.length + m.length) (cellsG (l ++ m)) := by rw [cellsG_append]; exact ho5
      clear ho5 hg5 ho4'
      go_wp2_with (fail)
      go_ret2
      exact ⟨A2, c2, by rw [HGl.out]; rfl, by rw [HGl.out]; exact own_base ho5' hb3.size, bl_call hb3 hb5⟩
  · have hE : joinE n l m = bothE n l m := by rw [joinE, if_neg hv]
    have hG : joinG n l m = [] := by rw [joinG, hE, if_neg hv]
    rw [hE, hG]
    generalize bothE n l m = ev at *
    go_enter Try.func49, Try.ntmps49
    go_wp2_with (go_at_call 62; refine HV.out.mono ?_; rintro e w1 ⟨rfl, hb1⟩)
    go_ret2
    exact ⟨none, 0, rfl, World.ownsRow_nil _ _ _ _, hb1⟩
end Go.Proofs.Yteoajadcdjaalaa
