/- Package heat's Insert. -/
import Derived.Test.YtlhnbknilcmleaaFew
namespace Go.Proofs.Ytlhnbknilcmleaa
open Go.RowKit

/-- A row grown by one three: other blocks are as they were. -/
theorem append_other (base : Nat) (t : TypeId) (T : TypeId) (hT : (Try.prog.info? T).map (fun i => (i.zero, i.size, i.bytes)) = some (some (.agg #[.int .i64 0, .int .i64 0, .int .i64 0]), 3, 24)) (ht : Try.prog.underlying t = some (.slice T)) (w : World) (v : Value) (l : List T3) (a : T3) (hown : w.ownsRow base T 3 v l.length (cellsT l)) (hlen : l.length ≤ 100000) (hb : base ≤ w.heap.size) :
    ∃ A' c' w', (∀ ty, (Builtin.append_ #[t, t] ty #[v, .slice (some ⟨w.heap.size, 0, none⟩) 1 1]).run Try.prog (w.alloc (.cells #[.int .i64 a.1, .int .i64 a.2.1, .int .i64 a.2.2] T)) = .ok (.slice A' (l.length + 1) c') w') ∧ w'.ownsRow base T 3 (.slice A' (l.length + 1) c') (l ++ [a]).length (cellsT (l ++ [a])) ∧ Below base w w' ∧ (∀ g, g < w.heap.size → v.ownBlock ≠ some g → w'.heap[g]? = w.heap[g]?) := by
  obtain ⟨i0, hi, hz0, hz1, hz2⟩ := info_parts hT
  have hrd : Rd (w.alloc (.cells #[.int .i64 a.1, .int .i64 a.2.1, .int .i64 a.2.2] T)) (some ⟨w.heap.size, 0, none⟩) (cellsT [a]) := rd_newT w T [a]
  have hs : base ≤ (w.alloc (.cells #[.int .i64 a.1, .int .i64 a.2.1, .int .i64 a.2.2] T)).heap.size := by rw [World.size_alloc]; omega
  obtain ⟨A', c', w2, h1, h2, h3⟩ := run_append_rows (P := Try.prog) _ base t T i0 _ 3 24 ht hi hz0 hz1 hz2 rfl (by decide) v l.length (cellsT l) (hown.alloc _) (some ⟨w.heap.size, 0, none⟩) 1 1 (cellsT [a]) rfl (cellsT_one _) hrd (by unfold maxLen; omega) (by omega) hs
  refine ⟨A', c', w2, h1, ?_, ?_, fun g hg hne => ?_⟩
  · rw [cellsT_append, List.length_append]; exact h2
  · exact ((Below.refl base w).alloc hb _).trans (grown_below (hown.alloc _) h3 hs)
  · exact (h3.block g (by rw [World.size_alloc]; omega) (fun e => hne e.symm)).trans (Below.heap_alloc w _ g hg)
theorem rest_trig {lim : Int} {l : List T3} {k : Nat} (hk : k < l.length) (h : trig lim l k = true) : winRest lim l k = wAt lim l k :: winRest lim l (k + 1) := by
  rw [winRest_succ hk, wOf, if_pos h]; rfl
theorem rest_not {lim : Int} {l : List T3} {k : Nat} (hk : k < l.length) (h : trig lim l k = false) : winRest lim l k = winRest lim l (k + 1) ∧ (winRest lim l k = [] ∨ ∃ v t, winRest lim l k = v :: t ∧ v.2.2 ≠ (k : Int)) := by
  have e : winRest lim l k = winRest lim l (k + 1) := by rw [winRest_succ hk, wOf, h]; rfl
  refine ⟨e, ?_⟩
  cases hw : winRest lim l k with
  | nil => exact .inl rfl
  | cons v t =>
    have := winRest_to (lim := lim) (l := l) (k := k + 1) (v := v) (by rw [← e, hw]; simp)
    exact .inr ⟨v, t, rfl, by omega⟩
theorem tailW_run (g o n c : Nat) (h : n + 1 ≤ c) (hn : n ≤ 10000) (w : World) : (Instr.slice 48 (.slice (some ⟨g, o, none⟩) (n + 1) c) (some (.int .i64 1)) none none).run Try.prog w = .ok (.slice (if c = 1 then some ⟨g, o, none⟩ else some ⟨g, o + 3, none⟩) n (c - 1)) w := by
  have q1 : (n : Int) + 1 ≤ (c : Int) := by omega
  by_cases hc : c = 1
  · subst hc
    obtain rfl : n = 0 := by omega
    go_simp
  · have q2 : ¬ (c : Int) = 1 := by omega
    go_simp
    intro h
    omega
theorem tailW_rd {w : World} {b o c : Nat} {x : T3} {l : List T3} (h : Rd w (some ⟨b, o, none⟩) (cellsT (x :: l))) (hc : l.length + 1 ≤ c) : Rd w (if c = 1 then some ⟨b, o, none⟩ else some ⟨b, o + 3, none⟩) (cellsT l) := by
  by_cases hce : c = 1
  · have : l = [] := List.length_eq_zero_iff.1 (by omega)
    subst this; exact Rd.nil _ _
  · rw [if_neg hce]
    have := h.dropped 1
    simpa using this
def insG (n : Int) (l : List T3) (lim : Int) : List T3 := if limE n l lim = 0 then insL lim l else []

set_option maxRecDepth 100000 in
set_option maxHeartbeats 4000000 in
theorem Insert_c (n : Int) (A : Option Addr) (l : List T3) (c : Nat) (lim : Int) (w : World) (hlen : l.length ≤ 1000) (hr : Rd w A (cellsT l)) :
    Calls Try.prog 36 #[.int .i64 n, .slice A l.length c, .int .i64 lim] w (OutT 61 (insG n l lim) (limE n l lim) w) := by
  have HV := Lib.hid (validateBy_c n A l c lim w hlen hr)
  by_cases hv : limE n l lim = 0
  · obtain ⟨h20, ha, hl0, hl1⟩ := limE_len hv
    have HS := fun (w1 : World) (h : Rd w1 A (cellsT l)) => Lib.hid (windowsOf_c A l c lim w1 h20 ha ⟨hl0, hl1⟩ h)
    have HB : insG n l lim = insL lim l := by rw [insG, if_pos hv]
    rw [hv] at HV
    rw [hv, HB]
    clear HB hv
    have HIL := fun k hk => Lib.hid (insTo_len (lim := lim) ha k hk)
    have HFL := fun k hk => Lib.hid (few_len (lim := lim) ha k hk)
    have HWL : Hid ((winL lim l).length ≤ 20) := by
      have := few_len (lim := lim) ha l.length (Nat.le_refl _)
      rw [List.take_length] at this
      show _ ≤ _
      rw [winL_len ha]; omega
    go_enter Try.func36, Try.ntmps36
    go_wp2_with (first | (go_at_call 61; refine HV.out.mono ?_; rintro e w1 ⟨rfl, hb1⟩) | (go_at_call 66; refine (HS _ (hr.later hb1)).out.mono ?_; rintro e w2 ⟨A2, c2, rfl, ho2, hb2⟩))
    have hb12 := bl_call hb1 hb2
    have hrw2 := (own_rd ho2).1
    have hcw2 : (winL lim l).length ≤ c2 := by
      rcases ho2.2 with ⟨h0, hn⟩ | ⟨g, cap, cur, hv, _, _, hn, _⟩
      · omega
      · injection hv with _ _ hc
        omega
    clear ho2
    go_loopg [9, 10, 25] l.length (fun gk v wv iv wr => ∃ (k : Nat) (B : Option Addr) (d : Nat), Hid (k + gk = l.length) ∧ iv = .int .i64 (k : Int) ∧ wv = .slice B (winRest lim l k).length d ∧ (winRest lim l k).length ≤ d ∧ Hid ((winRest lim l k).length ≤ 20) ∧ wr.ownsRow w2.heap.size 61 3 v (insTo lim l k).length (cellsT (insTo lim l k)) ∧ Below w2.heap.size w2 wr ∧ Rd w2 B (cellsT (winRest lim l k)))
    case atStart =>
      have hz := winRest_zero lim l
      exact ⟨0, A2, c2, by simp [Hid], rfl, by rw [hz], by rw [hz]; exact hcw2, by rw [hz]; exact HWL, World.ownsRow_nil _ _ _ _, Below.refl _ _, by rw [hz]; exact hrw2⟩
    case round =>
      obtain ⟨k, B, d, HK, rfl, rfl, hd, HR, hown, hb, hrw⟩ := hrel
      rcases gk with _ | gi
      · obtain rfl : k = l.length := HK.out
        obtain ⟨A', c', rfl⟩ := own_form hown
        go_wp2_with (fail)
        go_ret2
        exact ⟨A', c', rfl, own_base hown hb12.size, bl_call hb12 hb⟩
      · have hkl : k < l.length := by have := HK.out; omega
        have hkl' : (k : Int) < (l.length : Int) := by omega
        obtain ⟨b, o, rfl, _, c0, c1, c2⟩ := (hr.later (bl_call hb12 hb)).tri hkl
        have HN : Hid (insTo lim l (k + 1) = if trig lim l k then insTo lim l k ++ [(2, (l.getD k t0).2.1, 0)] ++ [l.getD k t0] else insTo lim l k ++ [l.getD k t0]) := rfl
        have HT1 := Lib.hid (@rest_trig lim l k hkl)
        have HT2 := Lib.hid (@rest_not lim l k hkl)
        have hil : (insTo lim l k).length ≤ 1000 := by
          have h1 := (HIL k (by omega)).out
          have h2 := (HFL k (by omega)).out
          omega
        have HAT : Hid ((wAt lim l k).2.2 = (k : Int)) := rfl
        have hrwr := hrw.later hb
        generalize wAt lim l k = wk at HAT HT1
        generalize l.getD k t0 = g at c0 c1 c2 HN
        generalize insTo lim l k = L at hown HN hil
        obtain ⟨g0, g1, g2⟩ := g
        simp only [] at c0 c1 c2 HN
        have hal := bl_alloc (Below.refl wr.heap.size wr) (.cells #[.int .i64 g0, .int .i64 g1, .int .i64 g2] 61)
        have hba := bl_call hb hal
        have hoa := own_call hown hal
        have hbx : Bx (wr.alloc (.cells #[.int .i64 g0, .int .i64 g1, .int .i64 g2] 61)) wr.heap.size 61 #[.int .i64 g0, .int .i64 g1, .int .i64 g2] := Bx.new _ _ _
        have hvb : u9.ownBlock ≠ some wr.heap.size := fun e => by have := (hown.lt _ e).2; omega
        cases ht : trig lim l k with
        | true =>
          have hrt := HT1.out ht
          have HX : Hid (insTo lim l (k + 1) = L ++ [(2, g1, 0)] ++ [(g0, g1, g2)]) := by show _ = _; rw [HN.out, if_pos ht]
          rw [hrt] at hd HR hrw hrwr ⊢
          clear ht HN HT1 HT2 hrt
          obtain ⟨R, hR⟩ : ∃ R, R = winRest lim l (k + 1) := ⟨_, rfl⟩
          rw [← hR] at hd HR hrw hrwr ⊢
          have HRR := Lib.hid hR
          clear hR
          obtain ⟨bw, ow, rfl, _, e0, e1, e2⟩ := hrwr.tri (k := 0) (by simp)
          have e2' : wr.cell? ⟨bw, ow + 2, none⟩ = some (.int .i64 (k : Int)) := by
            have : (wk :: R).getD 0 t0 = wk := rfl
            rw [this, HAT.out, Nat.zero_mul, Nat.add_zero] at e2
            exact e2
          have hwl : (wk :: R).length = R.length + 1 := rfl
          have hR20 : R.length + 1 ≤ 20 := HR.out
          have hd' : R.length + 1 ≤ d := hd
          have hsl := fun w1 => tailW_run bw ow R.length d hd' (by omega) w1
          have hrd' := tailW_rd hrw hd'
          have hpos : (0 : Int) < ((R.length : Int) + 1) := by omega
          rw [hwl] at hd HR ⊢
          generalize (if d = 1 then (some ⟨bw, ow, none⟩ : Option Addr) else some ⟨bw, ow + 3, none⟩) = B2 at *
          obtain ⟨A3, c3, W3, E3, ho3, hb3, hk3⟩ := append_other w2.heap.size 22 61 act_info Try.underlying22 (wr.alloc (.cells #[.int .i64 g0, .int .i64 g1, .int .i64 g2] 61)) u9 L (2, g1, 0) hoa (by omega) hba.size
          have hbx3 : Bx W3 wr.heap.size 61 #[.int .i64 g0, .int .i64 g1, .int .i64 g2] := (hk3 _ hbx.lt hvb).trans hbx
          obtain ⟨f0, f1, f2, _, _, _⟩ := hbx3.three
          have hb23 := hba.trans hb3
          have hl3 : (L ++ [((2 : Int), g1, (0 : Int))]).length = L.length + 1 := by simp
          obtain ⟨A4, c4, W4, E4, ho4, hb4, _⟩ := append_three w2.heap.size 22 61 act_info Try.underlying22 W3 (.slice A3 (L.length + 1) c3) (L ++ [(2, g1, 0)]) (g0, g1, g2) ho3 (by simp; omega) hb23.size
          simp only [World.size_alloc] at E3
          rw [hl3] at E4 ho4
          have HD := Lib.hid hd'
          have HE3 := Lib.hid E3
          have HE4 := Lib.hid E4
          clear E3 E4 ho3 hl3 e0 e1 e2 hwl hd hd'
          go_wp2_with (at_builtin; first
            | (refine wpList_append_eq rfl _ _ 22 rfl _ _ _ W3 rfl rfl HE3.out ?_)
            | (refine wpList_append_eq rfl _ _ 22 rfl _ _ _ W4 rfl rfl HE4.out ?_))
          have hb5 := hb23.trans hb4
          go_wp2_with (fail)
          go_roundg gi
          case rel => exact ⟨k + 1, B2, d - 1, by have := HK.out; show _ = _; omega, by go_num, by rw [← HRR.out], by rw [← HRR.out]; have := HD.out; omega, by rw [← HRR.out]; show _ ≤ _; omega, by rw [HX.out]; exact ho4, hb5, by rw [← HRR.out]; exact hrd'⟩
          case measure => omega
        | false =>
          obtain ⟨hre, hrh⟩ := HT2.out ht
          have HX : Hid (insTo lim l (k + 1) = L ++ [(g0, g1, g2)]) := by show _ = _; rw [HN.out, ht]; rfl
          rw [hre] at hd HR hrw hrwr hrh ⊢
          clear ht HN HT1 HT2 hre
          obtain ⟨R, hR⟩ : ∃ R, R = winRest lim l (k + 1) := ⟨_, rfl⟩
          rw [← hR] at hd HR hrw hrwr hrh ⊢
          have HRR := Lib.hid hR
          clear hR
          obtain ⟨A3, c3, W3, E3, ho3, hb3, _⟩ := append_three w2.heap.size 22 61 act_info Try.underlying22 (wr.alloc (.cells #[.int .i64 g0, .int .i64 g1, .int .i64 g2] 61)) u9 L (g0, g1, g2) hoa (by omega) hba.size
          simp only [World.size_alloc] at E3
          have HE3 := Lib.hid E3
          clear E3
          have hb5 := hba.trans hb3
          rcases hrh with rfl | ⟨v, t, rfl, hvk⟩
          · go_wp2_with (at_builtin; refine wpList_append_eq rfl _ _ 22 rfl _ _ _ W3 rfl rfl HE3.out ?_)
            go_wp2_with (fail)
            go_roundg gi
            case rel => exact ⟨k + 1, B, d, by have := HK.out; show _ = _; omega, by go_num, by rw [← HRR.out]; rfl, by rw [← HRR.out]; exact hd, by rw [← HRR.out]; exact HR, by rw [HX.out]; exact ho3, hb5, by rw [← HRR.out]; exact hrw⟩
            case measure => omega
          · obtain ⟨bw, ow, rfl, _, e0, e1, e2⟩ := hrwr.tri (k := 0) (by simp)
            have e2' : wr.cell? ⟨bw, ow + 2, none⟩ = some (.int .i64 v.2.2) := by
              have : (v :: t).getD 0 t0 = v := rfl
              rw [this, Nat.zero_mul, Nat.add_zero] at e2
              exact e2
            have hpos : (0 : Int) < ((t.length : Int) + 1) := by omega
            have hvk' : (v.2.2 == (k : Int)) = false := by simpa using hvk
            have hwl : (v :: t).length = t.length + 1 := rfl
            generalize v.2.2 = v2 at *
            clear e0 e1 e2 hvk
            have HREL : Hid ((v :: t).length ≤ d ∧ Hid ((v :: t).length ≤ 20) ∧ Rd w2 (some ⟨bw, ow, none⟩) (cellsT (v :: t))) := ⟨hd, HR, hrw⟩
            rw [hwl] at hd HR
            go_wp2_with (at_builtin; refine wpList_append_eq rfl _ _ 22 rfl _ _ _ W3 rfl rfl HE3.out ?_)
            go_wp2_with (fail)
            go_roundg gi
            case rel => exact ⟨k + 1, some ⟨bw, ow, none⟩, d, by have := HK.out; show _ = _; omega, by go_num, by rw [← HRR.out]; rfl, by rw [← HRR.out]; exact HREL.out.1, by rw [← HRR.out]; exact HREL.out.2.1, by rw [HX.out]; exact ho3, hb5, by rw [← HRR.out]; exact HREL.out.2.2⟩
            case measure => omega
  · have HB : insG n l lim = [] := by rw [insG, if_neg hv]
    have hv' : (limE n l lim != 0) = true := by simpa using hv
    rw [HB]
    clear HB
    generalize limE n l lim = ev at *
    go_enter Try.func36, Try.ntmps36
    go_wp2_with (go_at_call 61; refine HV.out.mono ?_; rintro e w1 ⟨rfl, hb1⟩)
    go_ret2
    exact ⟨none, 0, rfl, World.ownsRow_nil _ _ _ _, hb1⟩
end Go.Proofs.Ytlhnbknilcmleaa
