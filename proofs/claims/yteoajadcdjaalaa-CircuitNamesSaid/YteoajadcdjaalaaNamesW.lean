/- The walk of the law on the names of circuits. -/
import Derived.Test.YteoajadcdjaalaaRname2
import Derived.Test.YteoajadcdjaalaaFirstsW
namespace Go.Proofs.Yteoajadcdjaalaa
open Go.RowKit

theorem nmL_len (n : Int) {l : List G} (h : l.length ≤ 1000) : (nmL n l).length ≤ 1000 := by
  rw [nmL]; split
  · rw [nameL_len]; exact h
  · simp

set_option maxRecDepth 100000 in
set_option maxHeartbeats 4000000 in
theorem circuitNames_walk (n : Int) (A : Option Addr) (l : List G) (c : Nat) (w : World) (hcap : l.length ≤ c) (_hn : (Lit.int .i64 n).wf = true) (hr : Rd w A (cellsG l)) :
    Calls Try.prog 5 #[.int .i64 n, .slice A l.length c] w fun e w' => e = .returned (.bool true) ∧ Below w.heap.size w w' := by
  obtain ⟨i0, hi, hz0, hz1, hz2⟩ := info_parts gate_info
  have HL := fun w => Lib.hid (long_c A l.length c w)
  have HK := fun w => Lib.hid (known_c w)
  by_cases hlong : 50 < l.length
  · rw [decide_eq_true hlong] at HL
    go_enter Try.func5, Try.ntmps5
    go_wp2_with (fail)
    refine (HL _).out.mono ?_
    rintro e w1 ⟨rfl, rfl⟩
    go_wp2_with (fail)
    refine (HK _).out.mono ?_
    rintro e w2 ⟨rfl, hb2⟩
    go_wp2_with (fail)
    go_ret
    exact ⟨rfl, hb2⟩
  · rw [decide_eq_false hlong] at HL
    have hlen : l.length ≤ 1000 := by omega
    clear hlong
    have hb0 : Below w.heap.size w (w.alloc (.cells #[] 23)) := bl_alloc (Below.refl _ _) _
    have ho0 : (w.alloc (.cells #[] 23)).ownsRow w.heap.size 23 4 (.slice (some ⟨w.heap.size, 0, none⟩) 0 0) 0 (cellsG []) := World.ownsRow_made (e := 23) (size := 4) w #[] 0 (Nat.le_refl _) (by decide) rfl
    have H1 := fun B d w1 hr1 => Lib.hid (Name_c n B l d w1 hlen hr1)
    have H2 := fun w1 hr1 => Lib.hid (rName_c n A l c w1 hlen hcap hr1)
    have hml := nmL_len n hlen
    have HAl : Hid (validE n l = 0 → alikeB n l (nmL n l) = true ∧ bothE n l (nmL n l) = 0) := fun h => by rw [nmL, if_pos h]; exact alike_name h
    generalize nmL n l = M at *
    have H3 := fun B d w1 hr1 hr2 => Lib.hid (Alike_c n A B l M c d w1 hlen hml hr1 hr2)
    generalize alikeB n l M = ab at *
    generalize bothE n l M = eb at *
    generalize validE n l = ev at *
    go_enter Try.func5, Try.ntmps5
    go_wp2_with (fail)
    refine (HL _).out.mono ?_
    rintro e w1 ⟨rfl, rfl⟩
    go_wp2_with (at_builtin; refine wpList_append_any rfl _ _ 29 rfl w.heap.size 23 i0 _ 32 Try.underlying29 hi hz0 hz1 hz2 rfl _ 0 (cellsG []) rfl ho0 A l c rfl (hr.later hb0) (by unfold maxLen; omega) (by omega) (by simp) ?_)
    intro A1 c1 w1 ho1 hg1
    have hb1 : Below w.heap.size w w1 := hb0.trans (grown_below ho0 hg1 (by simp))
    try simp only [Nat.zero_add] at ho1
    have hr1 : Rd w1 A1 (cellsG l) := (own_rd ho1).1
    have HN := H1 A1 c1 w1 hr1
    clear hg1 ho1 ho0 hb0
    go_wp2_with (fail)
    refine HN.out.mono ?_
    rintro e w2 ⟨A2, c2, rfl, ho2, hb2⟩
    have hb02 := bl_call hb1 hb2
    go_wp2_with (fail)
    refine (H2 _ (hr.later hb02)).out.mono ?_
    rintro e w3 ⟨A3, c3, rfl, ho3, hb3⟩
    have hb03 := bl_call hb02 hb3
    have hr2 := (own_rd ho2).1.later hb3
    have HS := Lib.hid (same_c A2 A3 M M c2 c3 w3 hml hr2 (own_rd ho3).1)
    rw [show sameL M M = true by simp [sameL]] at HS
    go_wp2_with (fail)
    refine HS.out.mono ?_
    rintro e w4 ⟨rfl, hb4⟩
    have hb04 := bl_call hb03 hb4
    have H3' := H3 A2 c2 w4 (hr.later hb04) (hr2.later hb4)
    go_wp2_with (fail)
    refine H3'.out.mono ?_
    rintro e w5 ⟨rfl, hb5⟩
    have hb05 := bl_call hb04 hb5
    have ho5 := own_call ho2 (bl_call (bl_call hb3 hb4) hb5)
    have hb15 : Below w1.heap.size w1 w5 := bl_call hb2 (bl_call (bl_call hb3 hb4) hb5)
    -- what is left, whatever the answers so far
    have key : Hid (ev = 0 → ab = true ∧ eb = 0) := HAl
    have hok : (ev = 0 ∧ ab = true ∧ eb = 0) ∨ ev ≠ 0 := by
      by_cases h : ev = 0
      · exact .inl ⟨h, key.out h⟩
      · exact .inr h
    clear HAl key H1 H2 H3 HN HS H3' HL
    rcases hok with ⟨rfl, rfl, rfl⟩ | hev
    all_goals
      go_wp2_with (fail)
      go_loopg [13] M.length (fun gk iv wr => ∃ (i : Nat) (xs : List Value), Hid (i + gk = M.length) ∧ iv = .int .i64 (i : Int) ∧ wr.ownsRow w1.heap.size 23 4 (.slice A2 M.length c2) M.length xs ∧ Below w1.heap.size w1 wr)
      case atStart => exact ⟨0, cellsG M, by simp [Hid], rfl, ho5, hb15⟩
      case round =>
        obtain ⟨i, xs, HI, rfl, ho, hb⟩ := hrel
        rcases gk with _ | gi
        · obtain rfl : i = M.length := HI.out
          have hbw := hb1.trans (hb.mono hb1.size)
          have HS2 := Lib.hid (same_c A1 A l l c1 c wr hlen (hr1.later hb) (hr.later hbw))
          rw [show sameL l l = true by simp [sameL]] at HS2
          go_wp2_with (fail)
          refine HS2.out.mono ?_
          rintro e w6 ⟨rfl, hb6⟩
          go_wp2_with (fail)
          refine (HK _).out.mono ?_
          rintro e w7 ⟨rfl, hb7⟩
          go_wp2_with (fail)
          go_ret
          exact ⟨rfl, bl_call (bl_call hbw hb6) hb7⟩
        · have hiM : i < M.length := by have h := HI.out; omega
          have hiM' : (i : Int) < (M.length : Int) := by omega
          obtain ⟨g, rfl, hgb, hgl, hfr, hcell⟩ := own_cell ho (by omega)
          have hxl : xs.length = M.length * 4 := ho.1
          have hc3 := hcell (i * 4 + 3) (xs[i * 4 + 3]'(by omega)) (List.getElem?_eq_getElem (by omega))
          have hf3 := hfr (i * 4 + 3)
          have ho' := own_put ho (p := i * 4 + 3) (.int .i64 (-1))
          have hb' := hb.setCell (p := ⟨g, i * 4 + 3, none⟩) hgb (.int .i64 (-1))
          clear hcell hfr
          generalize xs[i * 4 + 3]'(by omega) = u at hc3
          go_wp2_with (fail)
          go_roundg gi
          case rel => exact ⟨i + 1, _, by have h := HI.out; show _ = _; omega, by go_num, ho', hb'⟩
          case measure => omega
end Go.Proofs.Yteoajadcdjaalaa
