/- The document's pair, Pair and Angle. -/
import Derived.Test.YteoajadcdjaalaaRval
import Derived.Test.YteoajadcdjaalaaPair
namespace Go.Proofs.Yteoajadcdjaalaa
open Go.RowKit

theorem gate_at {w : World} {A : Option Addr} {l : List G} {i : Nat} (hr : Rd w A (cellsG l)) (hi : i < l.length) : ∃ b o, A = some ⟨b, o, none⟩ ∧ Hid (∀ w1, Below w.heap.size w w1 →
    w1.cell? ⟨b, o + i * 4, none⟩ = some (.int .i64 (l.getD i g0).1) ∧ w1.cell? ⟨b, o + i * 4 + 1, none⟩ = some (.int .i64 (l.getD i g0).2.1) ∧ w1.cell? ⟨b, o + i * 4 + 2, none⟩ = some (.int .i64 (l.getD i g0).2.2.1) ∧ w1.cell? ⟨b, o + i * 4 + 3, none⟩ = some (.int .i64 (l.getD i g0).2.2.2)) := by
  obtain ⟨b, o, rfl, _, _⟩ := hr.gate hi
  refine ⟨b, o, rfl, fun w1 hb1 => ?_⟩
  obtain ⟨b', o', he, _, h1⟩ := (hr.later hb1).gate hi
  injection he with he
  injection he with e1 e2
  subst e1 e2
  exact h1

set_option maxRecDepth 100000 in
set_option maxHeartbeats 8000000 in
theorem rpair_c (A : Option Addr) (l : List G) (c : Nat) (k a b t k' a' b' t' : Int) (w : World) (hlen : l.length ≤ 1000) (hr : Rd w A (cellsG l)) :
    Calls Try.prog 82 #[.slice A l.length c, .agg #[.int .i64 k, .int .i64 a, .int .i64 b, .int .i64 t], .agg #[.int .i64 k', .int .i64 a', .int .i64 b', .int .i64 t']] w
      fun e w' => ∃ A' c', e = .returned (.slice A' (pairTo l (k, a, b, t) (k', a', b', t') l.length).length c') ∧ w'.ownsRow w.heap.size 23 4 (.slice A' (pairTo l (k, a, b, t) (k', a', b', t') l.length).length c') (pairTo l (k, a, b, t) (k', a', b', t') l.length).length (cellsG (pairTo l (k, a, b, t) (k', a', b', t') l.length)) ∧ Below w.heap.size w w' := by
  obtain ⟨i0, hi, hz0, hz1, hz2⟩ := info_parts gate_info
  have x0 := (Bx.new w 23 #[.int .i64 k, .int .i64 a, .int .i64 b, .int .i64 t]).alloc (.cells #[.int .i64 k', .int .i64 a', .int .i64 b', .int .i64 t'] 23)
  have y0 : Bx ((w.alloc (.cells #[.int .i64 k, .int .i64 a, .int .i64 b, .int .i64 t] 23)).alloc (.cells #[.int .i64 k', .int .i64 a', .int .i64 b', .int .i64 t'] 23)) (w.heap.size + 1) 23 #[.int .i64 k', .int .i64 a', .int .i64 b', .int .i64 t'] := Bx.newAt (by simp)
  have hb0 := bl_alloc (bl_alloc (Below.refl w.heap.size w) (.cells #[.int .i64 k, .int .i64 a, .int .i64 b, .int .i64 t] 23)) (.cells #[.int .i64 k', .int .i64 a', .int .i64 b', .int .i64 t'] 23)
  have hsz : ((w.alloc (.cells #[.int .i64 k, .int .i64 a, .int .i64 b, .int .i64 t] 23)).alloc (.cells #[.int .i64 k', .int .i64 a', .int .i64 b', .int .i64 t'] 23)).heap.size = w.heap.size + 2 := by simp
  have HPL := pairTo_len l (k, a, b, t) (k', a', b', t')
  go_enter Try.func82, Try.ntmps82
  go_wp2_with (fail)
  generalize (w.alloc (.cells #[.int .i64 k, .int .i64 a, .int .i64 b, .int .i64 t] 23)).alloc (.cells #[.int .i64 k', .int .i64 a', .int .i64 b', .int .i64 t'] 23) = w0 at *
  go_loopg [7, 8] l.length (fun gk sv iv wr => ∃ q : Nat, q + gk = l.length ∧ iv = .int .i64 (q : Int) ∧ wr.ownsRow w0.heap.size 23 4 sv (pairTo l (k, a, b, t) (k', a', b', t') q).length (cellsG (pairTo l (k, a, b, t) (k', a', b', t') q)) ∧ Below w0.heap.size w0 wr)
  case atStart => exact ⟨0, by omega, rfl, World.ownsRow_nil _ _ _ _, Below.refl _ _⟩
  case round =>
    obtain ⟨q, hq, rfl, hown, hb1⟩ := hrel
    have hb := bl_call hb0 hb1
    obtain ⟨B, d, rfl⟩ := own_form hown
    rcases gk with _ | gi
    · obtain rfl : q = l.length := by omega
      go_wp2_with (fail)
      go_ret
      exact ⟨B, d, rfl, own_base hown hb0.size, hb⟩
    · have hql : q < l.length := by omega
      have hql' : (q : Int) < (l.length : Int) := by omega
      have hpl := HPL q
      obtain ⟨b1, o1, rfl, hG⟩ := gate_at (hr.later hb) hql
      obtain ⟨c0, c1, c2, c3⟩ := hG.out wr (Below.refl _ _)
      have HX : Hid (pairTo l (k, a, b, t) (k', a', b', t') (q + 1) = if typeG (l.getD q g0) (k, a, b, t) || typeG (l.getD q g0) (k', a', b', t') then pairTo l (k, a, b, t) (k', a', b', t') q ++ [l.getD q g0] else pairTo l (k, a, b, t) (k', a', b', t') q) := rfl
      generalize l.getD q g0 = x at *
      obtain ⟨xk, xa, xb, xt⟩ := x
      simp only [] at c0 c1 c2 c3 hG
      generalize pairTo l (k, a, b, t) (k', a', b', t') q = L at *
      have HTx := fun w => Lib.hid (rType_c xk xa xb xt w)
      have HTg := fun w => Lib.hid (rType_c k a b t w)
      have HTh := fun w => Lib.hid (rType_c k' a' b' t' w)
      have hF : Hid (∀ w1, Below wr.heap.size wr w1 → (w1.cell? ⟨w.heap.size, 0, none⟩ = some (.int .i64 k) ∧ w1.cell? ⟨w.heap.size, 1, none⟩ = some (.int .i64 a) ∧ w1.cell? ⟨w.heap.size, 2, none⟩ = some (.int .i64 b) ∧ w1.cell? ⟨w.heap.size, 3, none⟩ = some (.int .i64 t)) ∧
          (w1.cell? ⟨w.heap.size + 1, 0, none⟩ = some (.int .i64 k') ∧ w1.cell? ⟨w.heap.size + 1, 1, none⟩ = some (.int .i64 a') ∧ w1.cell? ⟨w.heap.size + 1, 2, none⟩ = some (.int .i64 b') ∧ w1.cell? ⟨w.heap.size + 1, 3, none⟩ = some (.int .i64 t'))) := fun w1 h1 => by
        obtain ⟨p1, p2, p3, p4, _, _, _, _⟩ := (x0.call (bl_call hb1 h1)).four
        obtain ⟨q1, q2, q3, q4, _, _, _, _⟩ := (y0.call (bl_call hb1 h1)).four
        exact ⟨⟨p1, p2, p3, p4⟩, q1, q2, q3, q4⟩
      have HT : Hid (typeG (xk, xa, xb, xt) (k, a, b, t) = typeB xk xa xb k a b ∧ typeG (xk, xa, xb, xt) (k', a', b', t') = typeB xk xa xb k' a' b') := ⟨rfl, rfl⟩
      have hCC : Below wr.heap.size wr wr.drew := (Below.refl _ _).drew
      have yes : ∀ w3, Below wr.heap.size wr w3 → (w3.alloc (.cells #[.int .i64 xk, .int .i64 xa, .int .i64 xb, .int .i64 xt] 23)).ownsRow w0.heap.size 23 4 (.slice B L.length d) L.length (cellsG L) ∧ Below w0.heap.size w0 (w3.alloc (.cells #[.int .i64 xk, .int .i64 xa, .int .i64 xb, .int .i64 xt] 23)) ∧ Rd (w3.alloc (.cells #[.int .i64 xk, .int .i64 xa, .int .i64 xb, .int .i64 xt] 23)) (some ⟨w3.heap.size, 0, none⟩) (cellsG [(xk, xa, xb, xt)]) := fun w3 hb3 =>
        ⟨(own_call hown hb3).alloc _, bl_alloc (bl_call hb1 hb3) _, Bx.rd (cs := [.int .i64 xk, .int .i64 xa, .int .i64 xb, .int .i64 xt]) (Bx.new w3 23 _)⟩
      have HXy : Hid ((typeB xk xa xb k a b || typeB xk xa xb k' a' b') = true → pairTo l (k, a, b, t) (k', a', b', t') (q + 1) = L ++ [(xk, xa, xb, xt)]) := fun h => by rw [HX.out, HT.out.1, HT.out.2, if_pos h]
      have HXn : Hid ((typeB xk xa xb k a b || typeB xk xa xb k' a' b') = false → pairTo l (k, a, b, t) (k', a', b', t') (q + 1) = L) := fun h => by rw [HX.out, HT.out.1, HT.out.2, h]; rfl
      clear HX HT hsz HPL
      rcases type_cases xk xa xb k a b with ⟨ht, hn⟩ | ⟨ht, rfl, hn⟩ | ⟨ht, rfl, rfl, hn⟩ | ⟨ht, rfl, rfl, rfl⟩
      · rcases type_cases xk xa xb k' a' b' with ⟨ht2, hn2⟩ | ⟨ht2, rfl, hn2⟩ | ⟨ht2, rfl, rfl, hn2⟩ | ⟨ht2, rfl, rfl, rfl⟩
        · go_wp2_with (fail)
          refine wp_region_low (hCC) (by kernel_rfl) (by kernel_rfl) ?_
          repeat (first
            | go_big_quiet_skip
            | (go_big_quiet_want
               apply Exists.intro
               refine And.intro (fun W hW => ?_) ?_
               · (obtain ⟨⟨p0, p1, p2, p3⟩, q0, q1, q2, q3⟩ := hF.out W hW; obtain ⟨r0, r1, r2, r3⟩ := hG.out W hW)
                 go_simp
                 first
                   | exact rfl
                   | (first | (refine (HTx W).out.mono ?_; rintro e w1 ⟨rfl, hb1⟩; exact ⟨rfl, bl_call hW hb1⟩) | (refine (HTg W).out.mono ?_; rintro e w1 ⟨rfl, hb1⟩; exact ⟨rfl, bl_call hW hb1⟩) | (refine (HTh W).out.mono ?_; rintro e w1 ⟨rfl, hb1⟩; exact ⟨rfl, bl_call hW hb1⟩))
               try go_simp
               go_big_quiet_on))
          refine wpQuiet_nil ?_
          intro w9 hb9
          have HX' := Lib.hid (HXn.out (by simp [*]))
          go_wp2_with (fail)
          go_roundg gi
          case rel => exact ⟨q + 1, by omega, by go_num, by rw [HX'.out]; exact own_call hown hb9, bl_call hb1 hb9⟩
          case measure => omega
        · go_wp2_with (fail)
          refine wp_region_low (hCC) (by kernel_rfl) (by kernel_rfl) ?_
          repeat (first
            | go_big_quiet_skip
            | (go_big_quiet_want
               apply Exists.intro
               refine And.intro (fun W hW => ?_) ?_
               · (obtain ⟨⟨p0, p1, p2, p3⟩, q0, q1, q2, q3⟩ := hF.out W hW; obtain ⟨r0, r1, r2, r3⟩ := hG.out W hW)
                 go_simp
                 first
                   | exact rfl
                   | (first | (refine (HTx W).out.mono ?_; rintro e w1 ⟨rfl, hb1⟩; exact ⟨rfl, bl_call hW hb1⟩) | (refine (HTg W).out.mono ?_; rintro e w1 ⟨rfl, hb1⟩; exact ⟨rfl, bl_call hW hb1⟩) | (refine (HTh W).out.mono ?_; rintro e w1 ⟨rfl, hb1⟩; exact ⟨rfl, bl_call hW hb1⟩))
               try go_simp
               go_big_quiet_on))
          refine wpQuiet_nil ?_
          intro w9 hb9
          have HX' := Lib.hid (HXn.out (by simp [*]))
          go_wp2_with (fail)
          go_roundg gi
          case rel => exact ⟨q + 1, by omega, by go_num, by rw [HX'.out]; exact own_call hown hb9, bl_call hb1 hb9⟩
          case measure => omega
        · go_wp2_with (fail)
          refine wp_region_low (hCC) (by kernel_rfl) (by kernel_rfl) ?_
          repeat (first
            | go_big_quiet_skip
            | (go_big_quiet_want
               apply Exists.intro
               refine And.intro (fun W hW => ?_) ?_
               · (obtain ⟨⟨p0, p1, p2, p3⟩, q0, q1, q2, q3⟩ := hF.out W hW; obtain ⟨r0, r1, r2, r3⟩ := hG.out W hW)
                 go_simp
                 first
                   | exact rfl
                   | (first | (refine (HTx W).out.mono ?_; rintro e w1 ⟨rfl, hb1⟩; exact ⟨rfl, bl_call hW hb1⟩) | (refine (HTg W).out.mono ?_; rintro e w1 ⟨rfl, hb1⟩; exact ⟨rfl, bl_call hW hb1⟩) | (refine (HTh W).out.mono ?_; rintro e w1 ⟨rfl, hb1⟩; exact ⟨rfl, bl_call hW hb1⟩))
               try go_simp
               go_big_quiet_on))
          refine wpQuiet_nil ?_
          intro w9 hb9
          have HX' := Lib.hid (HXn.out (by simp [*]))
          go_wp2_with (fail)
          go_roundg gi
          case rel => exact ⟨q + 1, by omega, by go_num, by rw [HX'.out]; exact own_call hown hb9, bl_call hb1 hb9⟩
          case measure => omega
        · go_wp2_with (fail)
          refine wp_region_low (hCC) (by kernel_rfl) (by kernel_rfl) ?_
          repeat (first
            | go_big_quiet_skip
            | (go_big_quiet_want
               apply Exists.intro
               refine And.intro (fun W hW => ?_) ?_
               · (obtain ⟨⟨p0, p1, p2, p3⟩, q0, q1, q2, q3⟩ := hF.out W hW; obtain ⟨r0, r1, r2, r3⟩ := hG.out W hW)
                 go_simp
                 first
                   | exact rfl
                   | (first | (refine (HTx W).out.mono ?_; rintro e w1 ⟨rfl, hb1⟩; exact ⟨rfl, bl_call hW hb1⟩) | (refine (HTg W).out.mono ?_; rintro e w1 ⟨rfl, hb1⟩; exact ⟨rfl, bl_call hW hb1⟩) | (refine (HTh W).out.mono ?_; rintro e w1 ⟨rfl, hb1⟩; exact ⟨rfl, bl_call hW hb1⟩))
               try go_simp
               go_big_quiet_on))
          refine wpQuiet_nil ?_
          intro w9 hb9
          have HX' := Lib.hid (HXy.out (by simp [*]))
          obtain ⟨ho3, hb3', hrd3⟩ := yes w9 hb9
          obtain ⟨d0, d1, d2, d3⟩ := hG.out w9 hb9
          have hs3 := hb3'.size
          clear HXy HXn hown yes hF
          go_wp2_with (at_builtin; refine wpList_append_any rfl _ _ 29 rfl w0.heap.size 23 i0 _ 32 Try.underlying29 hi hz0 hz1 hz2 rfl _ L.length (cellsG L) rfl ho3 (some ⟨w9.heap.size, 0, none⟩) [(xk, xa, xb, xt)] 1 rfl hrd3 (by unfold maxLen; simp; omega) (by simp; omega) hs3 ?_)
          intro A' c' w5 hown5 hg5
          have hb5 := hb3'.trans (grown_below ho3 hg5 hs3)
          go_wp2_with (fail)
          go_roundg gi
          case rel => exact ⟨q + 1, by omega, by go_num, by rw [HX'.out, cellsG_append, List.length_append]; exact hown5, hb5⟩
          case measure => omega
      · rcases type_cases xk xa xb k' a' b' with ⟨ht2, hn2⟩ | ⟨ht2, rfl, hn2⟩ | ⟨ht2, rfl, rfl, hn2⟩ | ⟨ht2, rfl, rfl, rfl⟩
        · go_wp2_with (fail)
          refine wp_region_low (hCC) (by kernel_rfl) (by kernel_rfl) ?_
          repeat (first
            | go_big_quiet_skip
            | (go_big_quiet_want
               apply Exists.intro
               refine And.intro (fun W hW => ?_) ?_
               · (obtain ⟨⟨p0, p1, p2, p3⟩, q0, q1, q2, q3⟩ := hF.out W hW; obtain ⟨r0, r1, r2, r3⟩ := hG.out W hW)
                 go_simp
                 first
                   | exact rfl
                   | (first | (refine (HTx W).out.mono ?_; rintro e w1 ⟨rfl, hb1⟩; exact ⟨rfl, bl_call hW hb1⟩) | (refine (HTg W).out.mono ?_; rintro e w1 ⟨rfl, hb1⟩; exact ⟨rfl, bl_call hW hb1⟩) | (refine (HTh W).out.mono ?_; rintro e w1 ⟨rfl, hb1⟩; exact ⟨rfl, bl_call hW hb1⟩))
               try go_simp
               go_big_quiet_on))
          refine wpQuiet_nil ?_
          intro w9 hb9
          have HX' := Lib.hid (HXn.out (by simp [*]))
          go_wp2_with (fail)
          go_roundg gi
          case rel => exact ⟨q + 1, by omega, by go_num, by rw [HX'.out]; exact own_call hown hb9, bl_call hb1 hb9⟩
          case measure => omega
        · go_wp2_with (fail)
          refine wp_region_low (hCC) (by kernel_rfl) (by kernel_rfl) ?_
          repeat (first
            | go_big_quiet_skip
            | (go_big_quiet_want
               apply Exists.intro
               refine And.intro (fun W hW => ?_) ?_
               · (obtain ⟨⟨p0, p1, p2, p3⟩, q0, q1, q2, q3⟩ := hF.out W hW; obtain ⟨r0, r1, r2, r3⟩ := hG.out W hW)
                 go_simp
                 first
                   | exact rfl
                   | (first | (refine (HTx W).out.mono ?_; rintro e w1 ⟨rfl, hb1⟩; exact ⟨rfl, bl_call hW hb1⟩) | (refine (HTg W).out.mono ?_; rintro e w1 ⟨rfl, hb1⟩; exact ⟨rfl, bl_call hW hb1⟩) | (refine (HTh W).out.mono ?_; rintro e w1 ⟨rfl, hb1⟩; exact ⟨rfl, bl_call hW hb1⟩))
               try go_simp
               go_big_quiet_on))
          refine wpQuiet_nil ?_
          intro w9 hb9
          have HX' := Lib.hid (HXn.out (by simp [*]))
          go_wp2_with (fail)
          go_roundg gi
          case rel => exact ⟨q + 1, by omega, by go_num, by rw [HX'.out]; exact own_call hown hb9, bl_call hb1 hb9⟩
          case measure => omega
        · go_wp2_with (fail)
          refine wp_region_low (hCC) (by kernel_rfl) (by kernel_rfl) ?_
          repeat (first
            | go_big_quiet_skip
            | (go_big_quiet_want
               apply Exists.intro
               refine And.intro (fun W hW => ?_) ?_
               · (obtain ⟨⟨p0, p1, p2, p3⟩, q0, q1, q2, q3⟩ := hF.out W hW; obtain ⟨r0, r1, r2, r3⟩ := hG.out W hW)
                 go_simp
                 first
                   | exact rfl
                   | (first | (refine (HTx W).out.mono ?_; rintro e w1 ⟨rfl, hb1⟩; exact ⟨rfl, bl_call hW hb1⟩) | (refine (HTg W).out.mono ?_; rintro e w1 ⟨rfl, hb1⟩; exact ⟨rfl, bl_call hW hb1⟩) | (refine (HTh W).out.mono ?_; rintro e w1 ⟨rfl, hb1⟩; exact ⟨rfl, bl_call hW hb1⟩))
               try go_simp
               go_big_quiet_on))
          refine wpQuiet_nil ?_
          intro w9 hb9
          have HX' := Lib.hid (HXn.out (by simp [*]))
          go_wp2_with (fail)
          go_roundg gi
          case rel => exact ⟨q + 1, by omega, by go_num, by rw [HX'.out]; exact own_call hown hb9, bl_call hb1 hb9⟩
          case measure => omega
        · go_wp2_with (fail)
          refine wp_region_low (hCC) (by kernel_rfl) (by kernel_rfl) ?_
          repeat (first
            | go_big_quiet_skip
            | (go_big_quiet_want
               apply Exists.intro
               refine And.intro (fun W hW => ?_) ?_
               · (obtain ⟨⟨p0, p1, p2, p3⟩, q0, q1, q2, q3⟩ := hF.out W hW; obtain ⟨r0, r1, r2, r3⟩ := hG.out W hW)
                 go_simp
                 first
                   | exact rfl
                   | (first | (refine (HTx W).out.mono ?_; rintro e w1 ⟨rfl, hb1⟩; exact ⟨rfl, bl_call hW hb1⟩) | (refine (HTg W).out.mono ?_; rintro e w1 ⟨rfl, hb1⟩; exact ⟨rfl, bl_call hW hb1⟩) | (refine (HTh W).out.mono ?_; rintro e w1 ⟨rfl, hb1⟩; exact ⟨rfl, bl_call hW hb1⟩))
               try go_simp
               go_big_quiet_on))
          refine wpQuiet_nil ?_
          intro w9 hb9
          have HX' := Lib.hid (HXy.out (by simp [*]))
          obtain ⟨ho3, hb3', hrd3⟩ := yes w9 hb9
          obtain ⟨d0, d1, d2, d3⟩ := hG.out w9 hb9
          have hs3 := hb3'.size
          clear HXy HXn hown yes hF
          go_wp2_with (at_builtin; refine wpList_append_any rfl _ _ 29 rfl w0.heap.size 23 i0 _ 32 Try.underlying29 hi hz0 hz1 hz2 rfl _ L.length (cellsG L) rfl ho3 (some ⟨w9.heap.size, 0, none⟩) [(xk, xa, xb, xt)] 1 rfl hrd3 (by unfold maxLen; simp; omega) (by simp; omega) hs3 ?_)
          intro A' c' w5 hown5 hg5
          have hb5 := hb3'.trans (grown_below ho3 hg5 hs3)
          go_wp2_with (fail)
          go_roundg gi
          case rel => exact ⟨q + 1, by omega, by go_num, by rw [HX'.out, cellsG_append, List.length_append]; exact hown5, hb5⟩
          case measure => omega
      · rcases type_cases xk xa xb k' a' b' with ⟨ht2, hn2⟩ | ⟨ht2, rfl, hn2⟩ | ⟨ht2, rfl, rfl, hn2⟩ | ⟨ht2, rfl, rfl, rfl⟩
        · go_wp2_with (fail)
          refine wp_region_low (hCC) (by kernel_rfl) (by kernel_rfl) ?_
          repeat (first
            | go_big_quiet_skip
            | (go_big_quiet_want
               apply Exists.intro
               refine And.intro (fun W hW => ?_) ?_
               · (obtain ⟨⟨p0, p1, p2, p3⟩, q0, q1, q2, q3⟩ := hF.out W hW; obtain ⟨r0, r1, r2, r3⟩ := hG.out W hW)
                 go_simp
                 first
                   | exact rfl
                   | (first | (refine (HTx W).out.mono ?_; rintro e w1 ⟨rfl, hb1⟩; exact ⟨rfl, bl_call hW hb1⟩) | (refine (HTg W).out.mono ?_; rintro e w1 ⟨rfl, hb1⟩; exact ⟨rfl, bl_call hW hb1⟩) | (refine (HTh W).out.mono ?_; rintro e w1 ⟨rfl, hb1⟩; exact ⟨rfl, bl_call hW hb1⟩))
               try go_simp
               go_big_quiet_on))
          refine wpQuiet_nil ?_
          intro w9 hb9
          have HX' := Lib.hid (HXn.out (by simp [*]))
          go_wp2_with (fail)
          go_roundg gi
          case rel => exact ⟨q + 1, by omega, by go_num, by rw [HX'.out]; exact own_call hown hb9, bl_call hb1 hb9⟩
          case measure => omega
        · go_wp2_with (fail)
          refine wp_region_low (hCC) (by kernel_rfl) (by kernel_rfl) ?_
          repeat (first
            | go_big_quiet_skip
            | (go_big_quiet_want
               apply Exists.intro
               refine And.intro (fun W hW => ?_) ?_
               · (obtain ⟨⟨p0, p1, p2, p3⟩, q0, q1, q2, q3⟩ := hF.out W hW; obtain ⟨r0, r1, r2, r3⟩ := hG.out W hW)
                 go_simp
                 first
                   | exact rfl
                   | (first | (refine (HTx W).out.mono ?_; rintro e w1 ⟨rfl, hb1⟩; exact ⟨rfl, bl_call hW hb1⟩) | (refine (HTg W).out.mono ?_; rintro e w1 ⟨rfl, hb1⟩; exact ⟨rfl, bl_call hW hb1⟩) | (refine (HTh W).out.mono ?_; rintro e w1 ⟨rfl, hb1⟩; exact ⟨rfl, bl_call hW hb1⟩))
               try go_simp
               go_big_quiet_on))
          refine wpQuiet_nil ?_
          intro w9 hb9
          have HX' := Lib.hid (HXn.out (by simp [*]))
          go_wp2_with (fail)
          go_roundg gi
          case rel => exact ⟨q + 1, by omega, by go_num, by rw [HX'.out]; exact own_call hown hb9, bl_call hb1 hb9⟩
          case measure => omega
        · go_wp2_with (fail)
          refine wp_region_low (hCC) (by kernel_rfl) (by kernel_rfl) ?_
          repeat (first
            | go_big_quiet_skip
            | (go_big_quiet_want
               apply Exists.intro
               refine And.intro (fun W hW => ?_) ?_
               · (obtain ⟨⟨p0, p1, p2, p3⟩, q0, q1, q2, q3⟩ := hF.out W hW; obtain ⟨r0, r1, r2, r3⟩ := hG.out W hW)
                 go_simp
                 first
                   | exact rfl
                   | (first | (refine (HTx W).out.mono ?_; rintro e w1 ⟨rfl, hb1⟩; exact ⟨rfl, bl_call hW hb1⟩) | (refine (HTg W).out.mono ?_; rintro e w1 ⟨rfl, hb1⟩; exact ⟨rfl, bl_call hW hb1⟩) | (refine (HTh W).out.mono ?_; rintro e w1 ⟨rfl, hb1⟩; exact ⟨rfl, bl_call hW hb1⟩))
               try go_simp
               go_big_quiet_on))
          refine wpQuiet_nil ?_
          intro w9 hb9
          have HX' := Lib.hid (HXn.out (by simp [*]))
          go_wp2_with (fail)
          go_roundg gi
          case rel => exact ⟨q + 1, by omega, by go_num, by rw [HX'.out]; exact own_call hown hb9, bl_call hb1 hb9⟩
          case measure => omega
        · go_wp2_with (fail)
          refine wp_region_low (hCC) (by kernel_rfl) (by kernel_rfl) ?_
          repeat (first
            | go_big_quiet_skip
            | (go_big_quiet_want
               apply Exists.intro
               refine And.intro (fun W hW => ?_) ?_
               · (obtain ⟨⟨p0, p1, p2, p3⟩, q0, q1, q2, q3⟩ := hF.out W hW; obtain ⟨r0, r1, r2, r3⟩ := hG.out W hW)
                 go_simp
                 first
                   | exact rfl
                   | (first | (refine (HTx W).out.mono ?_; rintro e w1 ⟨rfl, hb1⟩; exact ⟨rfl, bl_call hW hb1⟩) | (refine (HTg W).out.mono ?_; rintro e w1 ⟨rfl, hb1⟩; exact ⟨rfl, bl_call hW hb1⟩) | (refine (HTh W).out.mono ?_; rintro e w1 ⟨rfl, hb1⟩; exact ⟨rfl, bl_call hW hb1⟩))
               try go_simp
               go_big_quiet_on))
          refine wpQuiet_nil ?_
          intro w9 hb9
          have HX' := Lib.hid (HXy.out (by simp [*]))
          obtain ⟨ho3, hb3', hrd3⟩ := yes w9 hb9
          obtain ⟨d0, d1, d2, d3⟩ := hG.out w9 hb9
          have hs3 := hb3'.size
          clear HXy HXn hown yes hF
          go_wp2_with (at_builtin; refine wpList_append_any rfl _ _ 29 rfl w0.heap.size 23 i0 _ 32 Try.underlying29 hi hz0 hz1 hz2 rfl _ L.length (cellsG L) rfl ho3 (some ⟨w9.heap.size, 0, none⟩) [(xk, xa, xb, xt)] 1 rfl hrd3 (by unfold maxLen; simp; omega) (by simp; omega) hs3 ?_)
          intro A' c' w5 hown5 hg5
          have hb5 := hb3'.trans (grown_below ho3 hg5 hs3)
          go_wp2_with (fail)
          go_roundg gi
          case rel => exact ⟨q + 1, by omega, by go_num, by rw [HX'.out, cellsG_append, List.length_append]; exact hown5, hb5⟩
          case measure => omega
      · go_wp2_with (fail)
        refine wp_region_low (hCC) (by kernel_rfl) (by kernel_rfl) ?_
        repeat (first
          | go_big_quiet_skip
          | (go_big_quiet_want
             apply Exists.intro
             refine And.intro (fun W hW => ?_) ?_
             · (obtain ⟨⟨p0, p1, p2, p3⟩, q0, q1, q2, q3⟩ := hF.out W hW; obtain ⟨r0, r1, r2, r3⟩ := hG.out W hW)
               go_simp
               first
                 | exact rfl
                 | (first | (refine (HTx W).out.mono ?_; rintro e w1 ⟨rfl, hb1⟩; exact ⟨rfl, bl_call hW hb1⟩) | (refine (HTg W).out.mono ?_; rintro e w1 ⟨rfl, hb1⟩; exact ⟨rfl, bl_call hW hb1⟩) | (refine (HTh W).out.mono ?_; rintro e w1 ⟨rfl, hb1⟩; exact ⟨rfl, bl_call hW hb1⟩))
             try go_simp
             go_big_quiet_on))
        refine wpQuiet_nil ?_
        intro w9 hb9
        have HX' := Lib.hid (HXy.out (by simp [*]))
        obtain ⟨ho3, hb3', hrd3⟩ := yes w9 hb9
        obtain ⟨d0, d1, d2, d3⟩ := hG.out w9 hb9
        have hs3 := hb3'.size
        clear HXy HXn hown yes hF
        go_wp2_with (at_builtin; refine wpList_append_any rfl _ _ 29 rfl w0.heap.size 23 i0 _ 32 Try.underlying29 hi hz0 hz1 hz2 rfl _ L.length (cellsG L) rfl ho3 (some ⟨w9.heap.size, 0, none⟩) [(xk, xa, xb, xt)] 1 rfl hrd3 (by unfold maxLen; simp; omega) (by simp; omega) hs3 ?_)
        intro A' c' w5 hown5 hg5
        have hb5 := hb3'.trans (grown_below ho3 hg5 hs3)
        go_wp2_with (fail)
        go_roundg gi
        case rel => exact ⟨q + 1, by omega, by go_num, by rw [HX'.out, cellsG_append, List.length_append]; exact hown5, hb5⟩
        case measure => omega
end Go.Proofs.Yteoajadcdjaalaa
