/- slices.Concat of two slices of numbers. -/
import Derived.Test.YtpjdojjdhbmbjaaGrow
import Derived.Test.YtpjdojjdhbmbjaaApp
namespace Go.Proofs.Ytpjdojjdhbmbjaa
open Go.RowKit

set_option maxHeartbeats 800000 in
theorem concat_c (A B : Option Addr) (p q : List Int) (cap cap' g c : Nat) (w : World) (hp : p.length ≤ 12) (hq : q.length ≤ 12) (hx : Bx w g 22 #[.slice A p.length cap, .slice B q.length cap'])
    (hr : Rd w A (ints p)) (hs : Rd w B (ints q)) :
    Calls Try.prog 93 #[.slice (some ⟨g, 0, none⟩) 2 c] w fun e w' => ∃ A' c', e = .returned (.slice A' (p.length + q.length) c') ∧ w'.ownsRow w.heap.size 3 1 (.slice A' (p.length + q.length) c') (p.length + q.length) (ints (p ++ q)) ∧ Below w.heap.size w w' := by
  obtain ⟨i0, hi, hz0, hz1, hz2⟩ := info_parts int_info
  obtain ⟨i1, i2, i3, i4⟩ := hx.two
  have hgr := fun w1 => Lib.hid (grow_c (p.length + q.length) (by omega) w1)
  go_enter Try.func93, Try.ntmps93
  go_wp2_with (fail)
  go_loop [3, 11] (fun s i => (i = .int .i64 0 ∧ s = .int .i64 0) ∨ (i = .int .i64 1 ∧ s = .int .i64 p.length) ∨ (i = .int .i64 2 ∧ s = .int .i64 ((p.length + q.length : Nat) : Int))) (fun _ i => 2 - (intOf i).toNat)
  case atStart => exact .inl ⟨rfl, rfl⟩
  case round =>
    rcases hrel with ⟨rfl, rfl⟩ | ⟨rfl, rfl⟩ | ⟨rfl, rfl⟩
    · have hn : ¬ ((p.length : Int) < 0) := by omega
      go_wp2_with (fail)
      go_round
      case rel => exact .inr (.inl ⟨rfl, by go_num⟩)
      case measure => simp [intOf]
    · have hn : ¬ ((p.length : Int) + (q.length : Int) < 0) := by omega
      go_wp2_with (fail)
      go_round
      case rel => exact .inr (.inr ⟨rfl, by go_num⟩)
      case measure => simp [intOf]
    · go_wp2_with (fail)
      refine (hgr w).out.mono ?_
      rintro e w1 ⟨A1, c1, rfl, hown1, hb1⟩
      have hx1 := hx.call hb1
      have hr1 := hr.later hb1
      have hs1 := hs.later hb1
      clear hgr i1 i2 i3 i4
      go_wp2_with (fail)
      go_loopw [6, 27] (fun v i wr => ((i = .int .i64 0 ∧ wr.ownsRow w.heap.size 3 1 v 0 []) ∨ (i = .int .i64 1 ∧ wr.ownsRow w.heap.size 3 1 v p.length (ints p)) ∨ (i = .int .i64 2 ∧ wr.ownsRow w.heap.size 3 1 v (p.length + q.length) (ints (p ++ q)))) ∧ Below w.heap.size w wr) (fun _ i _ => 2 - (intOf i).toNat)
      case atStart => exact ⟨.inl ⟨rfl, hown1⟩, hb1⟩
      case round =>
        obtain ⟨hrel, hb⟩ := hrel
        have hxr := hx.call hb
        obtain ⟨j1, j2, j3, j4⟩ := hxr.two
        have hrr := hr.later hb
        have hsr := hs.later hb
        clear hx1 hr1 hs1 hown1
        rcases hrel with ⟨rfl, hown⟩ | ⟨rfl, hown⟩ | ⟨rfl, hown⟩
        · go_wp2_with (at_builtin; refine wpList_append_any rfl _ _ 22 rfl w.heap.size 3 i0 _ 8 Try.underlying22 hi hz0 hz1 hz2 rfl _ 0 [] rfl hown A p cap rfl hrr (by unfold maxLen; omega) (by omega) hb.size ?_)
          intro A' c' w2 hown2 hg2
          have hb2 : Below w.heap.size w w2 := hb.trans (grown_below hown hg2 hb.size)
          clear hown hg2
          go_wp2_with (fail)
          go_roundw
          case rel => exact ⟨.inr (.inl ⟨rfl, hown2⟩), hb2⟩
          case measure => simp [intOf]
        · go_wp2_with (at_builtin; refine wpList_append_any rfl _ _ 22 rfl w.heap.size 3 i0 _ 8 Try.underlying22 hi hz0 hz1 hz2 rfl _ p.length (ints p) rfl hown B q cap' rfl hsr (by unfold maxLen; omega) (by omega) hb.size ?_)
          intro A' c' w2 hown2 hg2
          have hb2 : Below w.heap.size w w2 := hb.trans (grown_below hown hg2 hb.size)
          have hown3 : w2.ownsRow w.heap.size 3 1 (.slice A' (p.length + q.length) c') (p.length + q.length) (ints (p ++ q)) := by
            rw [show ints (p ++ q) = ints p ++ ints q by simp [ints]]; exact hown2
          clear hown hg2 hown2
          go_wp2_with (fail)
          go_roundw
          case rel => exact ⟨.inr (.inr ⟨rfl, hown3⟩), hb2⟩
          case measure => simp [intOf]
        · obtain ⟨A', c', rfl⟩ := own_form hown
          go_wp2_with (fail)
          go_ret
          exact ⟨A', c', rfl, hown, hb⟩
end Go.Proofs.Ytpjdojjdhbmbjaa
