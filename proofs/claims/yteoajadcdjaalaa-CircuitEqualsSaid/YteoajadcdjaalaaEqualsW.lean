/- The document's Equal; the walk of the law on equal circuits. -/
import Derived.Test.YteoajadcdjaalaaReducesW
import Derived.Test.YteoajadcdjaalaaAlikeW
import Derived.Test.YteoajadcdjaalaaEqM
namespace Go.Proofs.Yteoajadcdjaalaa
open Go.RowKit

set_option maxRecDepth 100000 in
theorem rEqual_c (n : Int) (A B : Option Addr) (l m : List G) (c d : Nat) (w : World) (hlen : l.length ≤ 1000) (hlen' : m.length ≤ 1000) (hr : Rd w A (cellsG l)) (hs : Rd w B (cellsG m)) :
    Calls Try.prog 44 #[.int .i64 n, .slice A l.length c, .slice B m.length d] w fun e w' => e = .returned (.tuple #[.bool (equalB n l m), .int .i64 (bothE n l m)]) ∧ Below w.heap.size w w' := by
  have HV := Lib.hid (two_c n A B l m c d w hlen hlen' hr hs)
  by_cases hv : bothE n l m = 0
  · obtain ⟨hv1, hv2⟩ := bothE_zero hv
    have HS := fun (w1 : World) h1 => Lib.hid (rreduce_c A l c w1 hlen (validE_gs hv1) (validE_ang hv1) h1)
    have HT := fun (w1 : World) h1 => Lib.hid (rreduce_c B m d w1 hlen' (validE_gs hv2) (validE_ang hv2) h1)
    have HA : Hid (equalB n l m = sameL (reducedL l) (reducedL m)) := by show _ = _; rw [equalB, hv]; rfl
    have h1 : (reducedL l).length ≤ 1000 := by rw [red_len]; have := shortL_len l; omega
    rw [hv] at HV
    rw [hv]
    generalize reducedL l = R1 at *
    generalize reducedL m = R2 at *
    have HQ := fun A1 A2 c1 c2 w1 k1 k2 => Lib.hid (same_c A1 A2 R1 R2 c1 c2 w1 h1 k1 k2)
    generalize sameL R1 R2 = sb at *
    go_enter Try.func44, Try.ntmps44
    go_wp2_with (go_at_call 62; refine HV.out.mono ?_; rintro e w1 ⟨rfl, hb1⟩)
    refine (HS _ (hr.later hb1)).out.mono ?_
    rintro e w2 ⟨A2, c2, rfl, ho2, hb2⟩
    have hb12 := bl_call hb1 hb2
    go_wp2_with (fail)
    refine (HT _ (hs.later hb12)).out.mono ?_
    rintro e w3 ⟨A3, c3, rfl, ho3, hb3⟩
    have hb13 := bl_call hb12 hb3
    have HQ' := HQ A2 A3 c2 c3 w3 ((own_rd ho2).1.later hb3) (own_rd ho3).1
    go_wp2_with (fail)
    refine HQ'.out.mono ?_
    rintro e w4 ⟨rfl, hb4⟩
    go_wp2_with (fail)
    go_ret2
    exact ⟨by rw [HA.out]; rfl, bl_call hb13 hb4⟩
  · have HA : Hid (equalB n l m = false) := by show _ = _; simp [equalB, hv]
    generalize bothE n l m = ev at hv HV
    go_enter Try.func44, Try.ntmps44
    go_wp2_with (go_at_call 62; refine HV.out.mono ?_; rintro e w1 ⟨rfl, hb1⟩)
    go_ret2
    exact ⟨by rw [HA.out]; rfl, hb1⟩

set_option maxRecDepth 100000 in
set_option maxHeartbeats 4000000 in
theorem circuitEquals_walk (n : Int) (A : Option Addr) (l : List G) (c : Nat) (B : Option Addr) (m : List G) (d : Nat) (w : World) (_hn : (Lit.int .i64 n).wf = true) (hr : Rd w A (cellsG l)) (hs : Rd w B (cellsG m)) :
    Calls Try.prog 12 #[.int .i64 n, .slice A l.length c, .slice B m.length d] w fun e w' => e = .returned (.bool true) ∧ Below w.heap.size w w' := by
  obtain ⟨i0, hi, hz0, hz1, hz2⟩ := info_parts gate_info
  have HL := fun w => Lib.hid (long_c A l.length c w)
  have HM := fun w => Lib.hid (long_c B m.length d w)
  have HK := fun w => Lib.hid (known_c w)
  by_cases hlong : 50 < l.length
  · rw [decide_eq_true hlong] at HL
    go_enter Try.func12, Try.ntmps12
    go_wp2_with (fail)
    refine (HL _).out.mono ?_
    rintro e w1 ⟨rfl, rfl⟩
    go_wp2_with (fail)
    refine (HK _).out.mono ?_
    rintro e w2 ⟨rfl, hb2⟩
    go_wp2_with (fail)
    go_ret
    exact ⟨rfl, hb2⟩
  · rw [decide_eq_false hlong] at HL
    by_cases hlong2 : 50 < m.length
    · rw [decide_eq_true hlong2] at HM
      go_enter Try.func12, Try.ntmps12
      go_wp2_with (fail)
      refine (HL _).out.mono ?_
      rintro e w1 ⟨rfl, rfl⟩
      go_wp2_with (fail)
      refine (HM _).out.mono ?_
      rintro e w1 ⟨rfl, rfl⟩
      go_wp2_with (fail)
      refine (HK _).out.mono ?_
      rintro e w2 ⟨rfl, hb2⟩
      go_wp2_with (fail)
      go_ret
      exact ⟨rfl, hb2⟩
    · rw [decide_eq_false hlong2] at HM
      have hlen : l.length ≤ 1000 := by omega
      have hlen' : m.length ≤ 1000 := by omega
      clear hlong hlong2
      have H1 := Lib.hid (Equal_c n A B l m c d w hlen hlen' hr hs)
      have H2 := fun w1 h1 h2 => Lib.hid (rEqual_c n A B l m c d w1 hlen hlen' h1 h2)
      have H3 := fun w1 h1 h2 => Lib.hid (Alike_c n A B l m c d w1 hlen hlen' h1 h2)
      have H4 := fun k a b t w1 h1 => Lib.hid (Angle_c n A l c k a b t w1 hlen h1)
      have H5 := fun k a b t w1 h1 => Lib.hid (Angle_c n B m d k a b t w1 hlen' h1)
      have HAE : Hid (alikeB n l m = true → equalB n l m = true) := fun h => by
        rw [alikeB, Bool.and_eq_true] at h
        rw [equalB, h.1]
        have h2 := alk_same.1 h.2
        have := red_alk (short_alk h2)
        rw [this]; simp [sameL]
      have HANG : Hid (bothE n l m = 0 → equalB n l m = true → ∀ g ∈ l ++ m, angleE n l g = angleE n m g ∧ withE n l [g] = 0 ∧ withE n m [g] = 0) := fun h0 h1 g hg => by
        obtain ⟨hv1, hv2⟩ := bothE_zero h0
        rw [equalB, h0] at h1
        have h2 : reducedL l = reducedL m := by simpa [sameL] using h1
        refine angle_red hv1 hv2 h2 ?_
        rcases List.mem_append.1 hg with hg | hg
        · exact validE_gates hv1 g hg
        · exact validE_gates hv2 g hg
      generalize equalB n l m = eb at *
      generalize alikeB n l m = ab at *
      generalize bothE n l m = ev at *
      go_enter Try.func12, Try.ntmps12
      go_wp2_with (fail)
      refine (HL _).out.mono ?_
      rintro e w1 ⟨rfl, rfl⟩
      go_wp2_with (fail)
      refine (HM _).out.mono ?_
      rintro e w1 ⟨rfl, rfl⟩
      go_wp2_with (fail)
      refine H1.out.mono ?_
      rintro e w1 ⟨rfl, hb1⟩
      go_wp2_with (fail)
      refine (H2 _ (hr.later hb1) (hs.later hb1)).out.mono ?_
      rintro e w2 ⟨rfl, hb2⟩
      have hb12 := bl_call hb1 hb2
      by_cases hv : ev = 0
      · subst hv
        go_wp2_with (fail)
        refine (H3 _ (hr.later hb12) (hs.later hb12)).out.mono ?_
        rintro e w3 ⟨rfl, hb3⟩
        have hb13 := bl_call hb12 hb3
        have hr3 := hr.later hb13
        have hs3 := hs.later hb13
        have hb0 : Below w3.heap.size w3 (w3.alloc (.cells #[] 23)) := bl_alloc (Below.refl _ _) _
        have ho0 : (w3.alloc (.cells #[] 23)).ownsRow w3.heap.size 23 4 (.slice (some ⟨w3.heap.size, 0, none⟩) 0 0) 0 (cellsG []) := World.ownsRow_made (e := 23) (size := 4) w3 #[] 0 (Nat.le_refl _) (by decide) rfl
        have hcase : (ab = false ∨ (ab = true ∧ eb = true)) := by
          cases ab with
          | false => exact .inl rfl
          | true => exact .inr ⟨rfl, HAE.out rfl⟩
        have HANG2 := Lib.hid (HANG.out (by first | rfl | trivial))
        clear HANG HAE H1 H2 H3 HL HM
        have hcase3 : (ab = false ∧ eb = false) ∨ (ab = false ∧ eb = true) ∨ (ab = true ∧ eb = true) := by
          rcases hcase with h | ⟨h1, h2⟩
          · cases eb with
            | false => exact .inl ⟨h, rfl⟩
            | true => exact .inr (.inl ⟨h, rfl⟩)
          · exact .inr (.inr ⟨h1, h2⟩)
        clear hcase
        rcases hcase3 with ⟨rfl, rfl⟩ | ⟨rfl, rfl⟩ | ⟨rfl, rfl⟩
        · go_wp2_with (at_builtin; refine wpList_append_any rfl _ _ 29 rfl w3.heap.size 23 i0 _ 32 Try.underlying29 hi hz0 hz1 hz2 rfl _ 0 (cellsG []) rfl ho0 A l c rfl (hr3.later hb0) (by unfold maxLen; omega) (by omega) (by simp) ?_)
          intro A1 c1 w4 ho4 hg4
          have hb4 : Below w3.heap.size w3 w4 := hb0.trans (grown_below ho0 hg4 (by simp))
          try simp only [Nat.zero_add] at ho4
          have ho4' : w4.ownsRow w3.heap.size 23 4 (.slice A1 l.length c1) l.length (cellsG l) := ho4
          clear hg4 ho4 ho0 hb0
          go_wp2_with (at_builtin; refine wpList_append_any rfl _ _ 29 rfl w3.heap.size 23 i0 _ 32 Try.underlying29 hi hz0 hz1 hz2 rfl _ l.length (cellsG l) rfl ho4' B m d rfl (hs3.later hb4) (by unfold maxLen; omega) (by omega) hb4.size ?_)
          intro A2 c2 w5 ho5 hg5
          have hb5 : Below w3.heap.size w3 w5 := hb4.trans (grown_below ho4' hg5 hb4.size)
          have hrA : Rd w5 A2 (cellsG (l ++ m)) := by rw [cellsG_append]; exact (own_rd ho5).1
          have HN : Hid ((l ++ m).length = l.length + m.length) := by show _ = _; simp
          have hb15 := bl_call hb13 hb5
          have hr5 := hr3.later hb5
          have hs5 := hs3.later hb5
          clear ho5 hg5 ho4' hb4
          have hal : (l ++ m).length ≤ 2000 := by simp; omega
          rw [← HN.out]
          clear HN
          generalize l ++ m = a at *
          go_wp2_with (fail)
          go_loopg [14] 0 (fun gk iv wr => iv = .int .i64 (0 : Int) ∧ Below w5.heap.size w5 wr)
          case atStart => exact ⟨rfl, Below.refl _ _⟩
          case round =>
            obtain ⟨rfl, hb⟩ := hrel
            rcases Nat.eq_zero_or_pos a.length with h0 | h0
            · have h0' : ¬ (0 : Int) < (a.length : Int) := by omega
              clear h0
              go_wp2_with (fail)
              refine (HK _).out.mono ?_
              rintro e w9 ⟨rfl, hb9⟩
              go_wp2_with (fail)
              go_ret
              exact ⟨rfl, bl_call (bl_call hb15 hb) hb9⟩
            · have h0' : (0 : Int) < (a.length : Int) := by omega
              clear h0
              go_wp2_with (fail)
              refine (HK _).out.mono ?_
              rintro e w9 ⟨rfl, hb9⟩
              go_wp2_with (fail)
              go_ret
              exact ⟨rfl, bl_call (bl_call hb15 hb) hb9⟩
        · go_wp2_with (at_builtin; refine wpList_append_any rfl _ _ 29 rfl w3.heap.size 23 i0 _ 32 Try.underlying29 hi hz0 hz1 hz2 rfl _ 0 (cellsG []) rfl ho0 A l c rfl (hr3.later hb0) (by unfold maxLen; omega) (by omega) (by simp) ?_)
          intro A1 c1 w4 ho4 hg4
          have hb4 : Below w3.heap.size w3 w4 := hb0.trans (grown_below ho0 hg4 (by simp))
          try simp only [Nat.zero_add] at ho4
          have ho4' : w4.ownsRow w3.heap.size 23 4 (.slice A1 l.length c1) l.length (cellsG l) := ho4
          clear hg4 ho4 ho0 hb0
          go_wp2_with (at_builtin; refine wpList_append_any rfl _ _ 29 rfl w3.heap.size 23 i0 _ 32 Try.underlying29 hi hz0 hz1 hz2 rfl _ l.length (cellsG l) rfl ho4' B m d rfl (hs3.later hb4) (by unfold maxLen; omega) (by omega) hb4.size ?_)
          intro A2 c2 w5 ho5 hg5
          have hb5 : Below w3.heap.size w3 w5 := hb4.trans (grown_below ho4' hg5 hb4.size)
          have hrA : Rd w5 A2 (cellsG (l ++ m)) := by rw [cellsG_append]; exact (own_rd ho5).1
          have HN : Hid ((l ++ m).length = l.length + m.length) := by show _ = _; simp
          have hb15 := bl_call hb13 hb5
          have hr5 := hr3.later hb5
          have hs5 := hs3.later hb5
          clear ho5 hg5 ho4' hb4
          have hal : (l ++ m).length ≤ 2000 := by simp; omega
          rw [← HN.out]
          clear HN
          generalize l ++ m = a at *
          go_wp2_with (fail)
          go_loopg [14] a.length (fun gk iv wr => ∃ i : Nat, Hid (i + gk = a.length) ∧ iv = .int .i64 (i : Int) ∧ Below w5.heap.size w5 wr)
          case atStart => exact ⟨0, by simp [Hid], rfl, Below.refl _ _⟩
          case round =>
            obtain ⟨i, HI, rfl, hb⟩ := hrel
            rcases gk with _ | gi
            · obtain rfl : i = a.length := HI.out
              go_wp2_with (fail)
              refine (HK _).out.mono ?_
              rintro e w9 ⟨rfl, hb9⟩
              go_wp2_with (fail)
              go_ret
              exact ⟨rfl, bl_call (bl_call hb15 hb) hb9⟩
            · have hia : i < a.length := by have h := HI.out; omega
              have hia' : (i : Int) < (a.length : Int) := by omega
              have hx := Lib.hid (HANG2.out (by first | rfl | trivial) (a.getD i g0) (by simp [hia]))
              obtain ⟨b, o, rfl, hG⟩ := gate_at hrA hia
              generalize a.getD i g0 = x at *
              obtain ⟨xk, xa, xb, xt⟩ := x
              obtain ⟨hx1, hx2, hx3⟩ := hx.out
              obtain ⟨p0, p1, p2, p3⟩ := hG.out wr hb
              try simp only [] at p0 p1 p2 p3
              have H4' := H4 xk xa xb xt wr (hr5.later hb)
              have H5' := fun w1 h => Lib.hid (H5 xk xa xb xt w1 h).out
              rw [hx2] at H4'
              rw [hx3, ← hx1] at H5'
              clear hx1 hx2 hx3 hx
              generalize angleE n l (xk, xa, xb, xt) = an at *
              go_wp2_with (fail)
              refine H4'.out.mono ?_
              rintro e w6 ⟨rfl, hb6⟩
              have hb56 := bl_call hb hb6
              clear p0 p1 p2 p3
              obtain ⟨p0, p1, p2, p3⟩ := hG.out w6 hb56
              try simp only [] at p0 p1 p2 p3
              go_wp2_with (fail)
              refine (H5' _ (hs5.later hb56)).out.mono ?_
              rintro e w7 ⟨rfl, hb7⟩
              go_wp2_with (fail)
              go_roundg gi
              case rel => exact ⟨i + 1, by have h := HI.out; show _ = _; omega, by go_num, bl_call hb56 hb7⟩
              case measure => omega
        · go_wp2_with (at_builtin; refine wpList_append_any rfl _ _ 29 rfl w3.heap.size 23 i0 _ 32 Try.underlying29 hi hz0 hz1 hz2 rfl _ 0 (cellsG []) rfl ho0 A l c rfl (hr3.later hb0) (by unfold maxLen; omega) (by omega) (by simp) ?_)
          intro A1 c1 w4 ho4 hg4
          have hb4 : Below w3.heap.size w3 w4 := hb0.trans (grown_below ho0 hg4 (by simp))
          try simp only [Nat.zero_add] at ho4
          have ho4' : w4.ownsRow w3.heap.size 23 4 (.slice A1 l.length c1) l.length (cellsG l) := ho4
          clear hg4 ho4 ho0 hb0
          go_wp2_with (at_builtin; refine wpList_append_any rfl _ _ 29 rfl w3.heap.size 23 i0 _ 32 Try.underlying29 hi hz0 hz1 hz2 rfl _ l.length (cellsG l) rfl ho4' B m d rfl (hs3.later hb4) (by unfold maxLen; omega) (by omega) hb4.size ?_)
          intro A2 c2 w5 ho5 hg5
          have hb5 : Below w3.heap.size w3 w5 := hb4.trans (grown_below ho4' hg5 hb4.size)
          have hrA : Rd w5 A2 (cellsG (l ++ m)) := by rw [cellsG_append]; exact (own_rd ho5).1
          have HN : Hid ((l ++ m).length = l.length + m.length) := by show _ = _; simp
          have hb15 := bl_call hb13 hb5
          have hr5 := hr3.later hb5
          have hs5 := hs3.later hb5
          clear ho5 hg5 ho4' hb4
          have hal : (l ++ m).length ≤ 2000 := by simp; omega
          rw [← HN.out]
          clear HN
          generalize l ++ m = a at *
          go_wp2_with (fail)
          go_loopg [14] a.length (fun gk iv wr => ∃ i : Nat, Hid (i + gk = a.length) ∧ iv = .int .i64 (i : Int) ∧ Below w5.heap.size w5 wr)
          case atStart => exact ⟨0, by simp [Hid], rfl, Below.refl _ _⟩
          case round =>
            obtain ⟨i, HI, rfl, hb⟩ := hrel
            rcases gk with _ | gi
            · obtain rfl : i = a.length := HI.out
              go_wp2_with (fail)
              refine (HK _).out.mono ?_
              rintro e w9 ⟨rfl, hb9⟩
              go_wp2_with (fail)
              go_ret
              exact ⟨rfl, bl_call (bl_call hb15 hb) hb9⟩
            · have hia : i < a.length := by have h := HI.out; omega
              have hia' : (i : Int) < (a.length : Int) := by omega
              have hx := Lib.hid (HANG2.out (by first | rfl | trivial) (a.getD i g0) (by simp [hia]))
              obtain ⟨b, o, rfl, hG⟩ := gate_at hrA hia
              generalize a.getD i g0 = x at *
              obtain ⟨xk, xa, xb, xt⟩ := x
              obtain ⟨hx1, hx2, hx3⟩ := hx.out
              obtain ⟨p0, p1, p2, p3⟩ := hG.out wr hb
              try simp only [] at p0 p1 p2 p3
              have H4' := H4 xk xa xb xt wr (hr5.later hb)
              have H5' := fun w1 h => Lib.hid (H5 xk xa xb xt w1 h).out
              rw [hx2] at H4'
              rw [hx3, ← hx1] at H5'
              clear hx1 hx2 hx3 hx
              generalize angleE n l (xk, xa, xb, xt) = an at *
              go_wp2_with (fail)
              refine H4'.out.mono ?_
              rintro e w6 ⟨rfl, hb6⟩
              have hb56 := bl_call hb hb6
              clear p0 p1 p2 p3
              obtain ⟨p0, p1, p2, p3⟩ := hG.out w6 hb56
              try simp only [] at p0 p1 p2 p3
              go_wp2_with (fail)
              refine (H5' _ (hs5.later hb56)).out.mono ?_
              rintro e w7 ⟨rfl, hb7⟩
              go_wp2_with (fail)
              go_roundg gi
              case rel => exact ⟨i + 1, by have h := HI.out; show _ = _; omega, by go_num, bl_call hb56 hb7⟩
              case measure => omega
      · clear HANG HAE
        go_wp2_with (fail)
        refine (HK _).out.mono ?_
        rintro e w5 ⟨rfl, hb5⟩
        go_wp2_with (fail)
        go_ret
        exact ⟨rfl, bl_call hb12 hb5⟩
end Go.Proofs.Yteoajadcdjaalaa
