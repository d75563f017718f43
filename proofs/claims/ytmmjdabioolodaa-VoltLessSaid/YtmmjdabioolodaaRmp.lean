/- Ramps: package volt's contracts. -/
import Derived.Test.YtmmjdabioolodaaChv
namespace Go.Proofs.Ytmmjdabioolodaa
open Go.RowKit

/-- A row stays where a row of another type has grown. -/
theorem own_kept {w w' : World} {b b' e e' n n' : Nat} {v v' : Value} {xs xs' : List Value} (h : w.ownsRow b e 1 v n xs) (ho : w.ownsRow b' e' 1 v' n' xs') (hne : e ≠ e') (hg : w.grownBy w' v'.ownBlock) : w'.ownsRow b e 1 v n xs := by
  refine h.kept hg ?_
  cases hA : v.ownBlock with
  | none => exact .inl rfl
  | some j => exact .inr (fun e => own_ne h ho hne j hA e.symm)
def tPart (a b : List Int) (s : Int) (k : Nat) : List Int := (List.range a.length).map fun i => if i < k then towZ (a.getD i 0) (b.getD i 0) s else 0
@[simp] theorem tPart_len (a b : List Int) (s : Int) (k : Nat) : (tPart a b s k).length = a.length := by simp [tPart]
theorem tPart_zero (a b : List Int) (s : Int) : tPart a b s 0 = List.replicate a.length 0 := by
  refine List.ext_getElem (by simp) fun i h1 h2 => ?_
  simp [tPart]
theorem tPart_all (a b : List Int) (s : Int) : tPart a b s a.length = towL a b s := by
  refine List.ext_getElem (by simp) fun i h1 h2 => ?_
  have h : i < a.length := by simpa using h1
  simp [tPart, towL, h]
theorem tPart_set (a b : List Int) (s : Int) (k : Nat) : (tPart a b s k).set k (towZ (a.getD k 0) (b.getD k 0) s) = tPart a b s (k + 1) := by
  refine List.ext_getElem (by simp) fun i h1 h2 => ?_
  rw [List.getElem_set]
  simp only [tPart, List.getElem_map, List.getElem_range]
  by_cases h : k = i
  · subst h; simp
  · rw [if_neg h]
    by_cases h' : i < k
    · rw [if_pos h', if_pos (by omega)]
    · rw [if_neg h', if_neg (by omega)]
set_option maxRecDepth 100000 in
set_option maxHeartbeats 2000000 in
theorem toward_c (A B : Option Addr) (a b : List Int) (cap cap' : Nat) (s : Int) (w : World) (hl : b.length = a.length) (hn : a.length ≤ 3) (hsm : ∀ k, Small (a.getD k 0) ∧ Small (b.getD k 0)) (h1 : 1 ≤ s) (h6 : s ≤ 6) (hr : Rd w A (ints a)) (hs : Rd w B (ints b)) :
    Calls Try.prog 83 #[.slice A a.length cap, .slice B b.length cap', .int .i64 s] w fun e w' => e = .returned (.slice (some ⟨w.heap.size, 0, none⟩) a.length a.length) ∧ Row w' w.heap.size (towL a b s) ∧ Below w.heap.size w w' := by
  obtain ⟨cs, hmk, hcs⟩ := make_ints a.length (by omega) w
  have hR0 : Row (w.alloc (.cells cs 3)) w.heap.size (tPart a b s 0) := by rw [hcs, tPart_zero]; exact Bx.new w _ _
  have hbl : Below w.heap.size w (w.alloc (.cells cs 3)) := bl_alloc (Below.refl _ _) _
  have HA := Lib.hid (tPart_all a b s)
  have HL := Lib.hid hl
  have HSET := Lib.hid (tPart_set a b s)
  clear hcs hl
  go_enter Try.func83, Try.ntmps83
  go_wp2_with (fail)
  generalize w.alloc (.cells cs 3) = w0 at *
  go_loopg [15] a.length (fun gk iv wr => ∃ k : Nat, Hid (k + gk = a.length) ∧ iv = .int .i64 (k : Int) ∧ Row wr w.heap.size (tPart a b s k) ∧ Below w.heap.size w wr)
  case atStart => exact ⟨0, by simp [Hid], rfl, hR0, hbl⟩
  case round =>
    clear hR0 hbl hmk
    obtain ⟨k, HK, rfl, hR, hb⟩ := hrel
    rcases gk with _ | gi
    · obtain rfl : k = a.length := HK.out
      go_wp2_with (fail)
      go_ret
      exact ⟨rfl, by rw [← HA.out]; exact hR, hb⟩
    · have hkN : k < a.length := by have := HK.out; omega
      have hkN' : (k : Int) < (a.length : Int) := by omega
      have hkB : k < b.length := by have := HL.out; omega
      have hkB' : (k : Int) < (b.length : Int) := by omega
      obtain ⟨b1, o1, rfl, _, c1⟩ := (hr.later hb).one hkN
      obtain ⟨b2, o2, rfl, _, c2⟩ := (hs.later hb).one hkB
      have c3 := hR.get (k := k) (by simpa using hkN)
      have c4 := hR.free k
      obtain ⟨⟨s1, s2⟩, s3, s4⟩ := hsm k
      have HS : Hid (∀ y, y = towZ (a.getD k 0) (b.getD k 0) s → Row (wr.setCell ⟨w.heap.size, k, none⟩ (.int .i64 y)) w.heap.size (tPart a b s (k + 1))) := fun y hy => by
        rw [hy, ← HSET.out k]; exact hR.set k _
      have HB : Hid (∀ y, Below w.heap.size w (wr.setCell ⟨w.heap.size, k, none⟩ (.int .i64 y))) := fun y => bl_set hb (Nat.le_refl _) _
      generalize a.getD k 0 = x at *
      generalize b.getD k 0 = z at *
      have q1 : wrap64 (x - s) = x - s := IntWalk.wrap64_in _ ⟨by omega, by omega⟩
      have q2 : wrap64 (x + s) = x + s := IntWalk.wrap64_in _ ⟨by omega, by omega⟩
      generalize (tPart a b s k).getD k 0 = old at c3
      go_wp2_with (fail)
      all_goals
        go_roundg gi
        case rel => exact ⟨k + 1, by have := HK.out; show _ = _; omega, by go_num, HS.out _ (by unfold towZ; omega), HB.out _⟩
        case measure => omega
set_option maxRecDepth 100000 in
theorem cloneI_c (A : Option Addr) (l : List Int) (cap : Nat) (w : World) (hlen : l.length ≤ 1000) (hr : Rd w A (ints l)) :
    Calls Try.prog 82 #[.slice A l.length cap] w fun e w' => ∃ A' c', e = .returned (.slice A' l.length c') ∧ w'.ownsRow w.heap.size 3 1 (.slice A' l.length c') l.length (ints l) ∧ Below w.heap.size w w' := by
  obtain ⟨i0, hi, hz0, hz1, hz2⟩ := info_parts int_info
  have qT : ∀ (w : World) (a : Option Addr) (n c n' c' : Nat), (binOp .eql 23 (.slice a n c) (.slice none n' c')).run Try.prog w = .ok (.bool a.isNone) w := fun w a n c n' c' => Lib.run_eql_slice_nil w _ _ a n c n' c' Try.underlying23
  cases A with
  | none =>
    have h0 : l = [] := by
      rcases hr with h | ⟨_, _, h, _⟩
      · cases l with
        | nil => rfl
        | cons a t => simp [ints] at h
      · cases h
    subst h0
    go_enter Try.func82, Try.ntmps82
    go_wp2_with (fail)
    go_ret
    exact ⟨none, 0, rfl, World.ownsRow_nil _ _ _ _, Below.refl _ _⟩
  | some ad =>
    have hown := World.ownsRow_made (e := 3) (size := 1) w #[] 0 (Nat.le_refl _) (by decide) rfl
    have hb0 : Below w.heap.size w (w.alloc (.cells #[] 3)) := bl_alloc (Below.refl _ _) _
    obtain ⟨A', c', w2, hrun, hown2, hg2⟩ := run_append_rows (P := Try.prog) (w.alloc (.cells #[] 3)) w.heap.size 23 3 i0 _ 1 8 Try.underlying23 hi hz0 hz1 hz2 rfl (by decide) _ 0 [] hown (some ad) l.length cap (ints l) (by simp) (ints_one _) (hr.later hb0) (by unfold maxLen; omega) (by omega) hb0.size
    have E1 := Lib.hid hrun
    clear hrun
    have hb2 : Below w.heap.size w w2 := hb0.trans (grown_below hown hg2 hb0.size)
    have hown3 : w2.ownsRow w.heap.size 3 1 (.slice A' l.length c') l.length (ints l) := by
      simpa using hown2
    clear hown hg2 hown2
    go_enter Try.func82, Try.ntmps82
    go_wp2_with (at_builtin; refine wpList_append_eq rfl _ _ 23 rfl _ _ _ w2 rfl rfl E1.out ?_)
    go_ret
    exact ⟨A', c', by simp, hown3, hb2⟩
def rampG (a b : List Int) (s : Int) : List (List Int) := if okSlew a b s = true then rampTo a b s (stepsN (jumpL a b) s) else []
set_option maxRecDepth 100000 in
set_option maxHeartbeats 4000000 in
theorem Ramp_c (A B : Option Addr) (a b : List Int) (cap cap' : Nat) (s : Int) (w : World) (hl : a.length ≤ 1000) (hl' : b.length ≤ 1000) (hr : Rd w A (ints a)) (hs : Rd w B (ints b)) :
    Calls Try.prog 41 #[.slice A a.length cap, .slice B b.length cap', .int .i64 s] w (OutTab (rampG a b s) (errB (okSlew a b s)) w) := by
  have HV := Lib.hid (validateRamp_c A B a b cap cap' s w hl hl' hr hs)
  unfold rampG
  by_cases hok : okSlew a b s = true
  · rw [hok] at HV ⊢
    rw [if_pos rfl]
    obtain ⟨h2, h1, h6⟩ := okSlew_iff.1 hok
    have hn := h2.hn
    have hbl := h2.hb.len
    have HJ := fun w1 (hb : Below w.heap.size w w1) => Lib.hid (stepsOf_c A B a b cap cap' s w1 h2 h1 h6 (hr.later hb) (hs.later hb))
    have HC := fun w1 (hb : Below w.heap.size w w1) => Lib.hid (cloneI_c A a cap w1 hl (hr.later hb))
    have hN := (steps_all (jumpL_pos a b) h2.jump h1 h6).2.1
    have HT := fun t C c w1 (hb : Below w.heap.size w w1) (hrd : Rd w1 C (ints (rampAt a b s t))) => Lib.hid (toward_c C B (rampAt a b s t) b c cap' s w1 (by rw [rampAt_len]; exact hbl) (by rw [rampAt_len]; omega) (fun k => ⟨small_get (ramp_ok (by omega) h2.ha h2.hb t) (by decide) k, (h2.small k).2⟩) h1 h6 hrd (hs.later hb))
    simp only [rampAt_len] at HT
    have HR0 : Hid (rampTo a b s 0 = [a]) := rfl
    have HA0 : Hid (rampAt a b s 0 = a) := rfl
    have HAS : Hid (∀ t, rampAt a b s (t + 1) = towL (rampAt a b s t) b s) := fun t => rfl
    have HRS := Lib.hid (rampTo_succ a b s)
    have HAL := Lib.hid (rampAt_len a b s)
    have HRL := Lib.hid (rampTo_len a b s)
    generalize stepsN (jumpL a b) s = N at *
    clear h2 hok hbl
    go_enter Try.func41, Try.ntmps41
    go_wp2_with (fail)
    refine HV.out.mono ?_
    rintro e w1 ⟨rfl, hb1⟩
    rw [errB_t]
    go_wp2_with (fail)
    refine (HC _ hb1).out.mono ?_
    rintro e w2 ⟨A2, c2, rfl, hown, hb2⟩
    have hb12 := bl_call hb1 hb2
    have hone := own_one (e := 23) (v := .slice A2 a.length c2) hb12.size
    have hrow0 := own_base hown hb1.size
    have htab0 : Tab (w2.alloc (.cells #[.slice A2 a.length c2] 23)) w.heap.size [.slice A2 a.length c2] [a] := Tab.call (Tab.snoc (Tab.nil w2 w.heap.size) hrow0) (bl_alloc (Below.refl _ _) _)
    have hb3 := bl_alloc hb12 (.cells #[.slice A2 a.length c2] 23)
    have hrow1 := hrow0.alloc (.cells #[.slice A2 a.length c2] 23)
    clear hown hrow0 HC
    go_wp2_with (fail)
    generalize w2.alloc (.cells #[.slice A2 a.length c2] 23) = w3 at *
    refine (HJ _ hb3).out.mono ?_
    rintro e w4 ⟨rfl, hb4⟩
    have hb34 := bl_call hb3 hb4
    have hone4 := own_call hone hb4
    have htab4 := htab0.call hb4
    have hrow4 := own_call hrow1 hb4
    clear hone htab0 hrow1 HJ
    go_wp2_with (fail)
    go_loopg [9, 10, 26] N (fun gk av ov iv wr => ∃ (t : Nat) (C D : Option Addr) (c d : Nat) (hs' : List Value), Hid (t + gk = N) ∧ iv = .int .i64 (t : Int) ∧ av = .slice C a.length c ∧ wr.ownsRow w.heap.size 3 1 (.slice C a.length c) a.length (ints (rampAt a b s t)) ∧ ov = .slice D (t + 1) d ∧ wr.ownsRow w.heap.size 23 1 (.slice D (t + 1) d) (t + 1) hs' ∧ Tab wr w.heap.size hs' (rampTo a b s t) ∧ Below w.heap.size w wr)
    case atStart => exact ⟨0, A2, _, c2, 1, _, by simp [Hid], rfl, rfl, by rw [HA0.out]; exact hrow4, rfl, hone4, by rw [HR0.out]; exact htab4, hb34⟩
    case round =>
      clear hone4 htab4 hrow4 hb34
      obtain ⟨t, C, D, c, d, hs', HK, rfl, rfl, hrow, rfl, hown, htab, hb⟩ := hrel
      rcases gk with _ | gi
      · obtain rfl : t = N := HK.out
        obtain ⟨R, rfl, hrt, hrows⟩ := htab.rt hown
        have HLL := Lib.hid (HRL.out t)
        go_wp2_with (fail)
        go_ret2
        unfold OutTab
        rw [HLL.out]
        exact ⟨D, d, R, rfl, hown, hrt, by rw [HLL.out] at hrows; exact hrows, hb⟩
      · have htN : t < N := by have := HK.out; omega
        have htN' : (t : Int) < (N : Int) := by omega
        have HT1 := HT t C c wr hb (own_rd hrow).1
        rw [← HAS.out t] at HT1
        have hrl := HAL.out (t + 1)
        have HRT := Lib.hid (HRS.out t)
        generalize hx : rampAt a b s (t + 1) = x at *
        have HX := Lib.hid hx
        clear hx
        go_wp2_with (fail)
        refine HT1.out.mono ?_
        rintro e w5 ⟨rfl, hR5, hb5⟩
        have hbw5 := bl_call hb hb5
        have hown5 := own_call hown hb5
        have htab5 := htab.call hb5
        have hrowx := hR5.own hrl (base := w.heap.size) hb.size (by omega)
        obtain ⟨A6, c6, w6, hrun, hown6, hb6, hg6⟩ := append_slice w.heap.size w5 _ (t + 1) hs' (.slice (some ⟨wr.heap.size, 0, none⟩) a.length a.length) rfl hown5 (by omega) hbw5.size
        have E1 := Lib.hid hrun
        have htab6 : Hid (Tab w6 w.heap.size (hs' ++ [.slice (some ⟨wr.heap.size, 0, none⟩) a.length a.length]) (rampTo a b s (t + 1))) := by
          show Tab _ _ _ _
          rw [HRT.out]
          have hsn := Tab.snoc (A := some ⟨wr.heap.size, 0, none⟩) (l := x) (c := a.length) htab5 (by rw [hrl]; exact hrowx)
          rw [hrl] at hsn
          exact (Tab.call hsn (bl_alloc (Below.refl _ _) _)).grown (hown5.alloc _) (by decide) hg6
        have hrow6 : Hid (w6.ownsRow w.heap.size 3 1 (.slice (some ⟨wr.heap.size, 0, none⟩) a.length a.length) a.length (ints x)) := by
          exact own_kept (hrowx.alloc _) (hown5.alloc _) (by decide) hg6
        have hb06 := hbw5.trans hb6
        clear hrun hg6 htab5 hown5 hrow htab hown HT1 hR5
        go_wp2_with (at_builtin; refine wpList_append_eq rfl _ _ 22 rfl _ _ _ w6 rfl rfl E1.out ?_)
        go_roundg gi
        case rel => exact ⟨t + 1, _, A6, _, c6, _, by have := HK.out; show _ = _; omega, by go_num, rfl, by rw [HX.out]; exact hrow6.out, rfl, hown6, htab6.out, hb06⟩
        case measure => omega
  · have hok' : okSlew a b s = false := by simpa using hok
    rw [hok'] at HV ⊢
    rw [if_neg (by decide)]
    go_enter Try.func41, Try.ntmps41
    go_wp2_with (fail)
    refine HV.out.mono ?_
    rintro e w1 ⟨rfl, hb1⟩
    rw [errB_f]
    go_wp2_with (fail)
    go_ret2
    exact ⟨none, 0, fun _ => (none, 0), rfl, World.ownsRow_nil _ _ _ _, ⟨.inl rfl, fun k hk => by simp at hk⟩, fun k hk => by simp at hk, hb1⟩
end Go.Proofs.Ytmmjdabioolodaa
