/- The walk of the statement on turned points. -/
import Derived.Test.YtaaggekifibocaaKnown
import Derived.Deep.RegionWith
namespace Go.Proofs.Ytaaggekifibocaa
open Go.RowKit

theorem turn4 (q x y : Int) (hx : inB x (-1000000) 1000000 = true) (hy : inB y (-1000000) 1000000 = true) : turnW q (turnW q (turnW q (turnW q (x, y)))) = (x, y) := by
  simp [inB] at hx hy
  have e1 : wrap64 (-x) = -x := IntWalk.wrap64_in _ ⟨by omega, by omega⟩
  have e2 : wrap64 (-y) = -y := IntWalk.wrap64_in _ ⟨by omega, by omega⟩
  have e3 : wrap64 x = x := IntWalk.wrap64_in _ ⟨by omega, by omega⟩
  have e4 : wrap64 y = y := IntWalk.wrap64_in _ ⟨by omega, by omega⟩
  by_cases h1 : (quad q == 1) = true
  · have t : ∀ a, turnW q a = (wrap64 (-a.2), a.1) := fun a => by simp only [turnW, h1, if_true]
    rw [t, t, t, t]; simp only [e1, e2, Int.neg_neg, e3, e4]
  · by_cases h2 : (quad q == 2) = true
    · have t : ∀ a, turnW q a = (wrap64 (-a.1), wrap64 (-a.2)) := fun a => by simp only [turnW, h1, h2, if_true, if_false, Bool.false_eq_true]
      rw [t, t, t, t]; simp only [e1, e2, Int.neg_neg, e3, e4]
    · by_cases h3 : (quad q == 3) = true
      · have t : ∀ a, turnW q a = (a.2, wrap64 (-a.1)) := fun a => by simp only [turnW, h1, h2, h3, if_true, if_false, Bool.false_eq_true]
        rw [t, t, t, t]; simp only [e1, e2, Int.neg_neg, e3, e4]
      · have t : ∀ a, turnW q a = a := fun a => by simp only [turnW, h1, h2, h3, if_false, Bool.false_eq_true]
        rw [t, t, t, t]

def turnN (q : Int) (a : Int × Int) : Nat → Int × Int
  | 0 => a
  | k + 1 => turnW q (turnN q a k)

set_option maxHeartbeats 2000000 in
theorem pulseTurns_walk (x y q : Int) (w : World) (_hx : (Lit.int .i64 x).wf = true) (_hy : (Lit.int .i64 y).wf = true) (_hq : (Lit.int .i64 q).wf = true) :
    Calls Try.prog 6 #[.agg #[.int .i64 x, .int .i64 y], .int .i64 q] w fun e w' => e = .returned (.bool true) ∧ Below w.heap.size w w' := by
  have x0 := Bx.new w 30 #[.int .i64 x, .int .i64 y]
  have hb0 : Below w.heap.size w (w.alloc (.cells #[.int .i64 x, .int .i64 y] 30)) := bl_alloc (Below.refl _ _) _
  by_cases hx : inB x (-1000000) 1000000 = true
  · by_cases hy : inB y (-1000000) 1000000 = true
    · have H4 := Lib.hid (turn4 q x y hx hy)
      go_enter Try.func6, Try.ntmps6
      go_wp2_with (go_at_call 36; refine (within_c _ _ _ _).mono ?_; rintro e w' ⟨rfl, rfl⟩)
      refine (turn_c _ _ _ _).mono ?_
      rintro e w1 ⟨u, v, rfl, huv, hb1⟩
      have HU := Lib.hid huv
      clear huv
      have x1 := x0.call hb1
      have hbw1 := bl_call hb0 hb1
      generalize w.alloc (.cells #[.int .i64 x, .int .i64 y] 30) = w0 at *
      obtain ⟨h1, h2, h3, h4⟩ := x1.two
      have hlt := x1.lt
      go_wp2_with (fail)
      have y1 : Bx ((w1.alloc (.cells #[.int .i64 u, .int .i64 v] 30)).alloc (.cells #[.int .i64 x, .int .i64 y] 30)) w1.heap.size 30 #[.int .i64 u, .int .i64 v] := (Bx.newAt rfl).alloc _
      have z1 : Bx ((w1.alloc (.cells #[.int .i64 u, .int .i64 v] 30)).alloc (.cells #[.int .i64 x, .int .i64 y] 30)) (w1.heap.size + 1) 30 #[.int .i64 x, .int .i64 y] := Bx.newAt (by simp)
      have x2 := (x1.alloc (.cells #[.int .i64 u, .int .i64 v] 30)).alloc (.cells #[.int .i64 x, .int .i64 y] 30)
      have hbw2 : Below w.heap.size w ((w1.alloc (.cells #[.int .i64 u, .int .i64 v] 30)).alloc (.cells #[.int .i64 x, .int .i64 y] 30)) := bl_alloc (bl_alloc hbw1 _) _
      go_loopw [7] (fun i wr => ∃ (k : Nat) (a b : Int), k ≤ 4 ∧ i = .int .i64 k ∧ Hid ((a, b) = turnN q (x, y) k) ∧ Bx wr (w1.heap.size + 1) 30 #[.int .i64 a, .int .i64 b] ∧ Bx wr w1.heap.size 30 #[.int .i64 u, .int .i64 v] ∧ Bx wr w.heap.size 30 #[.int .i64 x, .int .i64 y] ∧ Below w.heap.size w wr) (fun i _ => 4 - (intOf i).toNat)
      case atStart => exact ⟨0, x, y, by omega, rfl, rfl, z1, y1, x2, hbw2⟩
      case round =>
        obtain ⟨k, a, b, hk, rfl, hab, hz, hy', hx', hbr⟩ := hrel
        clear h1 h2 h3 h4 y1 z1 x2 hbw2 x1 hbw1
        by_cases hk4 : k < 4
        · obtain ⟨h1, h2, h3, h4⟩ := hz.two
          go_wp2_with (fail)
          refine (turn_c _ _ _ _).mono ?_
          rintro e w3 ⟨a', b', rfl, hab', hb3⟩
          have HA : Hid ((a', b') = turnN q (x, y) (k + 1)) := by show _ = turnW q _; rw [hab', hab.out]
          have hz3 := hz.call hb3
          obtain ⟨k1, k2, k3, k4⟩ := hz3.two
          clear hab' hab h1 h2 h3 h4
          go_wp2_with (fail)
          go_roundw
          case rel => exact ⟨k + 1, a', b', by omega, by go_num, HA, hz3.set2 _ _, ((hy'.call hb3).far (by omega) _).far (by omega) _, ((hx'.call hb3).far (by omega) _).far (by omega) _, bl_set (bl_set (bl_call hbr hb3) (by omega) _) (by omega) _⟩
          case measure => simp [intOf]; omega
        · obtain rfl : k = 4 := by omega
          have e4 : (a, b) = (x, y) := by rw [hab.out]; exact H4.out
          obtain ⟨rfl, rfl⟩ : a = x ∧ b = y := by cases e4; exact ⟨rfl, rfl⟩
          clear hab
          obtain ⟨h1, h2, h3, h4⟩ := hz.two
          obtain ⟨j1, j2, j3, j4⟩ := hy'.two
          obtain ⟨l1, l2, l3, l4⟩ := hx'.two
          go_wp2_with (fail)
          go_region_with (first | (go_at_call 38; refine (rturn_c _ _ _ _).mono ?_; rintro e w5 ⟨u', v', rfl, huv', hb5⟩; have e5 := huv'.trans HU.out.symm; clear huv'; simp only [Prod.mk.injEq] at e5; obtain ⟨rfl, rfl⟩ := e5; have i1 := (hz.drew.call hb5).two; have i2 := (hy'.drew.call hb5).two; have i3 := (hx'.drew.call hb5).two; have hb6 := hbr.drew.trans (hb5.mono hbr.size)) | (go_at_call 18; refine (known_c _).mono ?_; rintro e w6 ⟨rfl, hb7⟩))
          all_goals go_wp2_with (fail)
          all_goals go_ret
          all_goals exact ⟨rfl, bl_call hb6 hb7⟩
    · have hy' : inB y (-1000000) 1000000 = false := by simpa using hy
      clear hy
      go_enter Try.func6, Try.ntmps6
      go_wp2_with (first | (go_at_call 36; refine (within_c _ _ _ _).mono ?_; rintro e w' ⟨rfl, rfl⟩) | (go_at_call 18; refine (known_c _).mono ?_; rintro e w' ⟨rfl, hb1⟩))
      go_ret
      exact ⟨rfl, bl_call hb0 hb1⟩
  · have hx' : inB x (-1000000) 1000000 = false := by simpa using hx
    clear hx
    go_enter Try.func6, Try.ntmps6
    go_wp2_with (first | (go_at_call 36; refine (within_c _ _ _ _).mono ?_; rintro e w' ⟨rfl, rfl⟩) | (go_at_call 18; refine (known_c _).mono ?_; rintro e w' ⟨rfl, hb1⟩))
    go_ret
    exact ⟨rfl, bl_call hb0 hb1⟩
end Go.Proofs.Ytaaggekifibocaa
