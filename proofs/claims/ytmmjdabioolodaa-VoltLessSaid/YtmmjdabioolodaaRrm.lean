/- Ramps and sums: the specification's contracts. -/
import Derived.Test.YtmmjdabioolodaaSumC
import Derived.Test.YtmmjdabioolodaaRfl
namespace Go.Proofs.Ytmmjdabioolodaa
open Go.RowKit

/-- A new row: a copy. -/
theorem row_copy (w : World) (A : Option Addr) (x : List Int) (c : Nat) (hl : x.length ≤ 1000) (hr : Rd w A (ints x)) :
    ∃ A1 c1 w1, (∀ ty, (Builtin.append_ #[23, 23] ty #[.slice (some ⟨w.heap.size, 0, none⟩) 0 0, .slice A x.length c]).run Try.prog (w.alloc (.cells #[] 3)) = .ok (.slice A1 x.length c1) w1) ∧
      w1.ownsRow w.heap.size 3 1 (.slice A1 x.length c1) x.length (ints x) ∧ Below w.heap.size w w1 := by
  obtain ⟨i0, hi, hz0, hz1, hz2⟩ := info_parts int_info
  have hown := World.ownsRow_made (e := 3) (size := 1) w #[] 0 (Nat.le_refl _) (by decide) rfl
  have hb0 : Below w.heap.size w (w.alloc (.cells #[] 3)) := bl_alloc (Below.refl _ _) _
  obtain ⟨A1, c1, w1, h1, h2, h3⟩ := run_append_rows (P := Try.prog) (w.alloc (.cells #[] 3)) w.heap.size 23 3 i0 _ 1 8 Try.underlying23 hi hz0 hz1 hz2 rfl (by decide) _ 0 [] hown A x.length c (ints x) (by simp) (ints_one _) (hr.later hb0) (by unfold maxLen; omega) (by omega) hb0.size
  simp only [Nat.zero_add, List.nil_append] at h1 h2
  exact ⟨A1, c1, w1, h1, h2, hb0.trans (grown_below hown h3 hb0.size)⟩
theorem ints_set (p : List Int) (k : Nat) (x : Int) : ints (p.set k x) = (ints p).set k (.int .i64 x) := by simp [ints, List.map_set]
theorem own_putI {w : World} {base c g n i : Nat} {p : List Int} (h : w.ownsRow base 3 1 (.slice (some ⟨g, 0, none⟩) n c) n (ints p)) (hn : p.length = n) (hi : i < n) :
    w.cell? ⟨g, i, none⟩ = some (.int .i64 (p.getD i 0)) ∧ w.frozen? ⟨g, i, none⟩ = false ∧ ∀ x, (w.setCell ⟨g, i, none⟩ (.int .i64 x)).ownsRow base 3 1 (.slice (some ⟨g, 0, none⟩) n c) n (ints (p.set i x)) := by
  refine ⟨?_, h.frozenAt i, fun x => ?_⟩
  · obtain ⟨b, o, he, _, hc⟩ := (own_rd h).1.at_ (k := i) (by rw [ints_length]; omega)
    injection he with he
    injection he with e1 e2
    subst e1 e2
    have := hc i _ (ints_get (by omega))
    rwa [Nat.zero_add] at this
  · rw [ints_set]
    exact (h.stored i _).1
theorem Tab.mod {w w' : World} {base : Nat} {hs : List Value} {ls : List (List Int)} {S : Nat → Prop} (h : Tab w base hs ls) (hm : Mod S w w') (hS : ∀ k, S k → k < base) : Tab w' base hs ls :=
  ⟨h.1, fun k hk => by
    obtain ⟨A, c, h1, h2⟩ := h.2 k hk
    exact ⟨A, c, h1, own_mod h2 hm (fun j hj hs => by have := (h2.lt j hj).1; have := hS j hs; omega)⟩⟩
def uPart (a b : List Int) (k : Nat) : List Int := (List.range a.length).map fun i => if i < k then b.getD i 0 else a.getD i 0
@[simp] theorem uPart_len (a b : List Int) (k : Nat) : (uPart a b k).length = a.length := by simp [uPart]
theorem uPart_zero (a b : List Int) : uPart a b 0 = a := by
  refine list_ext (by simp) fun i h1 => ?_
  have h : i < a.length := by simpa using h1
  simp [uPart, h]
theorem uPart_all (a b : List Int) (h : a.length = b.length) : uPart a b a.length = b := by
  refine list_ext (by simp [h]) fun i h1 => ?_
  have h : i < a.length := by simpa using h1
  simp [uPart, h]
theorem uPart_get {a b : List Int} {k : Nat} (h : k < a.length) : (uPart a b k).getD k 0 = a.getD k 0 := by simp [uPart, h]
theorem uPart_set (a b : List Int) (k : Nat) : (uPart a b k).set k (b.getD k 0) = uPart a b (k + 1) := by
  refine List.ext_getElem (by simp) fun i h1 h2 => ?_
  rw [List.getElem_set]
  simp only [uPart, List.getElem_map, List.getElem_range]
  by_cases h : k = i
  · subst h; simp
  · rw [if_neg h]
    by_cases h' : i < k
    · rw [if_pos h', if_pos (by omega)]
    · rw [if_neg h', if_neg (by omega)]
set_option maxRecDepth 100000 in
set_option maxHeartbeats 4000000 in
theorem rRamp_c (A B : Option Addr) (a b : List Int) (cap cap' : Nat) (s : Int) (w : World) (hl : a.length ≤ 1000) (hl' : b.length ≤ 1000) (hr : Rd w A (ints a)) (hs : Rd w B (ints b)) :
    Calls Try.prog 42 #[.slice A a.length cap, .slice B b.length cap', .int .i64 s] w (OutTab (rampG a b s) (errB (okSlew a b s)) w) := by
  have HV := Lib.hid (rslewed_c A B a b cap cap' s w hl hl' hr hs)
  have HFO : Hid (∀ (M : List (List Int)) (E : Int) (A' : Option Addr) (c' : Nat) (S : Rows) (w' : World), rampG a b s = M → errB (okSlew a b s) = E → w'.ownsRow w.heap.size 23 1 (.slice A' M.length c') M.length (rowsV S M) → RT w' A' S M → (∀ k, k < M.length → w'.ownsRow w.heap.size 3 1 (.slice (S k).1 (M.getD k []).length (S k).2) (M.getD k []).length (ints (M.getD k []))) → Below w.heap.size w w' → OutTab (rampG a b s) (errB (okSlew a b s)) w (.returned (.tuple #[.slice A' M.length c', .int .i64 E])) w') := fun M E A' c' S w' h1 h2 h3 h4 h5 h6 => by rw [h1, h2]; exact ⟨A', c', S, rfl, h3, h4, h5, h6⟩
  generalize OutTab (rampG a b s) (errB (okSlew a b s)) w = FO at HFO ⊢
  by_cases hok : okSlew a b s = true
  · have HE : Hid (errB (okSlew a b s) = 0) := by show _ = _; rw [hok]; rfl
    have HG : Hid (rampG a b s = rampTo a b s (stepsN (jumpL a b) s)) := by show _ = _; unfold rampG; rw [if_pos hok]
    rw [hok] at HV
    obtain ⟨h2, h1, h6⟩ := okSlew_iff.1 hok
    have hn := h2.hn
    have hbl := h2.hb.len
    have HBL := Lib.hid hbl
    have hN := (steps_all (jumpL_pos a b) h2.jump h1 h6).2.1
    have HEND := Lib.hid (ramp_end hbl.symm h2.jump h1 h6)
    have HNOT := Lib.hid (fun t => @ramp_not a b s hbl.symm h2.jump h1 h6 t)
    have HR0 : Hid (rampTo a b s 0 = [a]) := rfl
    have HA0 : Hid (rampAt a b s 0 = a) := rfl
    have HAS : Hid (∀ t k, k < a.length → (rampAt a b s (t + 1)).getD k 0 = if (rampAt a b s t).getD k 0 < b.getD k 0 then min (b.getD k 0) ((rampAt a b s t).getD k 0 + s) else max (b.getD k 0) ((rampAt a b s t).getD k 0 - s)) := fun t k hk => by
      rw [rampAt, towL_get (by simpa using hk), towZ_if (by omega)]
    have HRS := Lib.hid (rampTo_succ a b s)
    have HAL := Lib.hid (rampAt_len a b s)
    have HRL := Lib.hid (rampTo_len a b s)
    have HBD : Hid (∀ t k, -3 ≤ (rampAt a b s t).getD k 0 ∧ (rampAt a b s t).getD k 0 ≤ 3) := fun t k => (ramp_ok (by omega) h2.ha h2.hb t).at_ k
    have HBB : Hid (∀ k, -3 ≤ b.getD k 0 ∧ b.getD k 0 ≤ 3) := fun k => h2.hb.at_ k
    have HSI := fun (x : List Int) (C : Option Addr) (c : Nat) (w1 : World) (hx : x.length = a.length) (hb : Below w.heap.size w w1) (hc : Rd w1 C (ints x)) => Lib.hid (sameInts_c C B x b c cap' w1 (by omega) hc (hs.later hb))
    generalize stepsN (jumpL a b) s = N at *
    clear h2 hok hbl
    go_enter Try.func42, Try.ntmps42
    go_wp2_with (fail)
    refine HV.out.mono ?_
    rintro e w1 ⟨rfl, hb1⟩
    rw [errB_t]
    obtain ⟨A2, c2, w2, hrun1, hown2, hb2⟩ := row_copy w1 A a cap hl (hr.later hb1)
    obtain ⟨A3, c3, w3, hrun2, hown3, hb3⟩ := row_copy w2 A2 a c2 hl (own_rd hown2).1
    have E1 := Lib.hid hrun1
    have E2 := Lib.hid hrun2
    clear hrun1 hrun2
    have hb12 := bl_call hb1 hb2
    have hb13 := bl_call hb12 hb3
    have hone := own_one (e := 23) (v := .slice A3 a.length c3) (Nat.le_trans hb12.size hb3.size)
    have htab0 : Tab (w3.alloc (.cells #[.slice A3 a.length c3] 23)) w2.heap.size [.slice A3 a.length c3] [a] := Tab.call (Tab.snoc (Tab.nil w3 w2.heap.size) hown3) (bl_alloc (Below.refl _ _) _)
    have hb14 := bl_alloc hb13 (.cells #[.slice A3 a.length c3] 23)
    have hrow4 := own_base ((own_call hown2 hb3).alloc (.cells #[.slice A3 a.length c3] 23)) hb1.size
    obtain ⟨g, o, rfl, hgl, _⟩ := (own_rd hown2).1.at_ (k := 0) (by simp; omega)
    obtain rfl : o = 0 := by
      rcases hown2.2 with ⟨h0, _⟩ | ⟨g', cap', cur, hv, _⟩
      · cases h0
      · injection hv with e1; injection e1 with e1; injection e1 with _ e1
    have hbw := hb1.size
    have hb2s := hb2.size
    have hgw : w.heap.size ≤ g := Nat.le_trans hb1.size ((own_rd hown2).2 _ rfl)
    have hsz3 : w2.heap.size ≤ w3.heap.size := hb3.size
    clear hown2 hown3
    go_wp2_with (at_builtin; first
      | refine wpList_append_eq (w := w1.alloc (.cells #[] 3)) rfl _ _ 23 rfl _ _ _ w2 rfl rfl E1.out ?_
      | refine wpList_append_eq (w := w2.alloc (.cells #[] 3)) rfl _ _ 23 rfl _ _ _ w3 rfl rfl E2.out ?_)
    have hsz4 : w2.heap.size ≤ (w3.alloc (.cells #[.slice A3 a.length c3] 23)).heap.size := by rw [World.size_alloc]; omega
    generalize w3.alloc (.cells #[.slice A3 a.length c3] 23) = w4 at *
    go_loopg [10, 11] N (fun gk ov _ wr => ∃ (t : Nat) (D : Option Addr) (d : Nat) (hs' : List Value), Hid (t + gk = N) ∧ wr.ownsRow w.heap.size 3 1 (.slice (some ⟨g, 0, none⟩) a.length c2) a.length (ints (rampAt a b s t)) ∧ ov = .slice D (t + 1) d ∧ wr.ownsRow w.heap.size 23 1 (.slice D (t + 1) d) (t + 1) hs' ∧ Tab wr w2.heap.size hs' (rampTo a b s t) ∧ Below w.heap.size w wr ∧ g < w2.heap.size ∧ w2.heap.size ≤ wr.heap.size)
    case atStart => exact ⟨0, _, 1, _, by simp [Hid], by rw [HA0.out]; exact hrow4, rfl, own_base hone (by omega), by rw [HR0.out]; exact htab0, hb14, hgl, hsz4⟩
    case round =>
      clear hone htab0 hrow4 hb14 E1 E2 hb13 hb12 hb3 hb2 hb1
      obtain ⟨t, D, d, hs', HK, hrow, rfl, hown, htab, hb, hgl2, hw24⟩ := hrel
      have HS1 := HSI (rampAt a b s t) _ c2 wr (HAL.out t) hb (own_rd hrow).1
      rw [HAL.out t] at HS1
      rcases gk with _ | gi
      · obtain rfl : t = N := HK.out
        rw [HEND.out] at HS1
        have hd : decide (b = b) = true := by simp
        rw [hd] at HS1
        have HLL := Lib.hid (HRL.out t)
        go_wp2_with (fail)
        refine HS1.out.mono ?_
        rintro e w5 ⟨rfl, hb5⟩
        obtain ⟨S, rfl, hrt, hrows⟩ := ((htab.call hb5).lower (base' := w.heap.size) (by omega)).rt (own_call hown hb5)
        have hb05 := bl_call hb hb5
        have hown5 := own_call hown hb5
        go_wp2_with (fail)
        have hfo := HFO.out _ 0 D d S _ HG.out HE.out (by rw [HLL.out]; exact hown5) hrt hrows hb05
        rw [HLL.out] at hfo
        exact hfo
      · have htN : t < N := by have := HK.out; omega
        have hd : decide (rampAt a b s t = b) = false := decide_eq_false (HNOT.out t htN)
        rw [hd] at HS1
        have hrl := HAL.out (t + 1)
        have HXT := Lib.hid (HAL.out t)
        have HRT := Lib.hid (HRS.out t)
        have HST := Lib.hid (HAS.out t)
        have HB1 := Lib.hid (HBD.out t)
        have HU0 := Lib.hid (uPart_zero (rampAt a b s t) (rampAt a b s (t + 1)))
        have HUA := Lib.hid (uPart_all (rampAt a b s t) (rampAt a b s (t + 1)) (by rw [HXT.out, hrl]))
        have HUS := Lib.hid (uPart_set (rampAt a b s t) (rampAt a b s (t + 1)))
        have HUG := Lib.hid (fun k => @uPart_get (rampAt a b s t) (rampAt a b s (t + 1)) k)
        have HUL := Lib.hid (uPart_len (rampAt a b s t) (rampAt a b s (t + 1)))
        rw [HXT.out] at HUA HUG HUL
        generalize hx : rampAt a b s (t + 1) = x at *
        have HX := Lib.hid hx
        clear hx
        generalize rampAt a b s t = y at *
        go_wp2_with (fail)
        refine HS1.out.mono ?_
        rintro e w5 ⟨rfl, hb5⟩
        have hb05 := bl_call hb hb5
        have hown5 := own_call hown hb5
        have htab5 := htab.call hb5
        have hrow5 := own_call hrow hb5
        clear hrow hown htab HS1
        go_wp2_with (fail)
        go_loopg [11] a.length (fun gk jv wq => ∃ k : Nat, Hid (k + gk = a.length) ∧ jv = .int .i64 (k : Int) ∧ wq.ownsRow w.heap.size 3 1 (.slice (some ⟨g, 0, none⟩) a.length c2) a.length (ints (uPart y x k)) ∧ wq.ownsRow w.heap.size 23 1 (.slice D (t + 1) d) (t + 1) hs' ∧ Tab wq w2.heap.size hs' (rampTo a b s t) ∧ Below w.heap.size w wq ∧ w2.heap.size ≤ wq.heap.size)
        case atStart => exact ⟨0, by simp [Hid], rfl, by rw [HU0.out]; exact hrow5, hown5, htab5, hb05, Nat.le_trans hw24 hb5.size⟩
        case round =>
          clear hown5 htab5 hrow5 hb05 hb hb5
          obtain ⟨k, HJ, rfl, hrow, hown, htab, hb, hq24⟩ := hrel
          rcases gk with _ | gj
          · obtain rfl : k = a.length := HJ.out
            rw [HUA.out] at hrow
            have hxl := hrl
            obtain ⟨A6, c6, w6, hrun6, hown6, hb6⟩ := row_copy wr (some ⟨g, 0, none⟩) x c2 (by omega) (own_rd hrow).1
            rw [hrl] at hrun6 hown6
            obtain ⟨A7, c7, w7, hrun7, hown7, hb7, hg7⟩ := append_slice w.heap.size w6 _ (t + 1) hs' (.slice A6 a.length c6) rfl (own_call hown hb6) (by omega) (Nat.le_trans hb.size hb6.size)
            have E1 := Lib.hid hrun6
            have E2 := Lib.hid hrun7
            have hwr2 : w2.heap.size ≤ wr.heap.size := hq24
            have htab7 : Hid (Tab w7 w2.heap.size (hs' ++ [.slice A6 a.length c6]) (rampTo a b s (t + 1))) := by
              show Tab _ _ _ _
              rw [HRT.out]
              have hsn := Tab.snoc (A := A6) (l := x) (c := c6) (htab.call hb6) (by rw [hrl]; exact own_base hown6 hwr2)
              rw [hrl] at hsn
              exact (Tab.call hsn (bl_alloc (Below.refl _ _) _)).grown ((own_call hown hb6).alloc _) (by decide) hg7
            have hrow7 : Hid (w7.ownsRow w.heap.size 3 1 (.slice (some ⟨g, 0, none⟩) a.length c2) a.length (ints x)) :=
              own_kept ((own_call hrow hb6).alloc _) ((own_call hown hb6).alloc _) (by decide) hg7
            have hb07 := (bl_call hb hb6).trans hb7
            have hs67 := hb7.size
            clear hrun6 hrun7 hg7 hown hrow htab
            go_wp2_with (at_builtin; first
              | refine wpList_append_eq (w := wr.alloc (.cells #[] 3)) rfl _ _ 23 rfl _ _ _ w6 rfl rfl E1.out ?_
              | refine wpList_append_eq (w := w6.alloc (.cells #[.slice A6 a.length c6] 23)) rfl _ _ 22 rfl _ _ _ w7 rfl rfl E2.out ?_)
            go_roundg gi
            case rel => exact ⟨t + 1, A7, c7, _, by have := HK.out; show _ = _; omega, by rw [HX.out]; exact hrow7.out, rfl, hown7, htab7.out, hb07, hgl2, Nat.le_trans hq24 (Nat.le_trans hb6.size hs67)⟩
            case measure => omega
          · have hkN : k < a.length := by have := HJ.out; omega
            have hkN' : (k : Int) < (a.length : Int) := by omega
            have hkB : k < b.length := by rw [HBL.out]; exact hkN
            have hkB' : (k : Int) < (b.length : Int) := by omega
            obtain ⟨c1, c4, hput⟩ := own_putI hrow (by rw [HUL.out]) hkN
            rw [HUG.out k hkN] at c1
            obtain ⟨b2, o2, rfl, hb2l, c2'⟩ := (hs.later hb).one hkB
            have hxk := HST.out k hkN
            have hput2 := hput (x.getD k 0)
            rw [HUS.out k] at hput2
            have y1 := HB1.out k
            have y2 := HBB.out k
            have hmm : ∀ v, Mod (fun q => q = g) wr (wr.setCell ⟨g, k, none⟩ v) := fun v => (Mod.refl (fun q => q = g) wr).setCell (.inr rfl) v
            have htabs := fun v => htab.mod (hmm v) (fun q hq => by rw [hq]; exact hgl2)
            have howns := fun v => own_mod hown (hmm v) (fun q hq hqg => own_ne hown hrow (by decide) q hq (by rw [hqg]; rfl))
            clear hput
            generalize y.getD k 0 = yk at *
            generalize b.getD k 0 = bk at *
            have q1 : wrap64 (yk + s) = yk + s := IntWalk.wrap64_in _ ⟨by omega, by omega⟩
            have q2 : wrap64 (yk - s) = yk - s := IntWalk.wrap64_in _ ⟨by omega, by omega⟩
            by_cases hlt : yk < bk
            · rw [if_pos hlt] at hxk
              have HXK := Lib.hid hxk
              have HF : Hid (∀ v, v = min bk (yk + s) → (wr.setCell ⟨g, k, none⟩ (.int .i64 v)).ownsRow w.heap.size 3 1 (.slice (some ⟨g, 0, none⟩) a.length c2) a.length (ints (uPart y x (k + 1)))) := fun v hv => by rw [hv, ← hxk]; exact hput2
              clear hput2 hxk
              go_wp2_with (fail)
              go_quiet (fail)
              go_wp2_with (fail)
              go_region
              all_goals go_wp2_with (fail)
              all_goals
                go_roundg gj
                case rel => exact ⟨k + 1, by have := HJ.out; show _ = _; omega, by go_num, HF.out _ (by omega), howns _, htabs _, bl_set (below_drewN hb _) hgw _, by rw [World.size_setCell]; exact hq24⟩
                case measure => omega
            · rw [if_neg hlt] at hxk
              have HXK := Lib.hid hxk
              have HF : Hid (∀ v, v = max bk (yk - s) → (wr.setCell ⟨g, k, none⟩ (.int .i64 v)).ownsRow w.heap.size 3 1 (.slice (some ⟨g, 0, none⟩) a.length c2) a.length (ints (uPart y x (k + 1)))) := fun v hv => by rw [hv, ← hxk]; exact hput2
              clear hput2 hxk
              go_wp2_with (fail)
              go_quiet (fail)
              go_wp2_with (fail)
              go_region
              all_goals go_wp2_with (fail)
              all_goals
                go_roundg gj
                case rel => exact ⟨k + 1, by have := HJ.out; show _ = _; omega, by go_num, HF.out _ (by omega), howns _, htabs _, bl_set (below_drewN hb _) hgw _, by rw [World.size_setCell]; exact hq24⟩
                case measure => omega
  · have hok' : okSlew a b s = false := by simpa using hok
    have HE : Hid (errB (okSlew a b s) = 1) := by show _ = _; rw [hok']; rfl
    have HG : Hid (rampG a b s = []) := by show _ = _; unfold rampG; rw [if_neg hok]
    rw [hok'] at HV
    go_enter Try.func42, Try.ntmps42
    go_wp2_with (fail)
    refine HV.out.mono ?_
    rintro e w1 ⟨rfl, hb1⟩
    rw [errB_f]
    go_wp2_with (fail)
    exact HFO.out [] 1 none 0 (fun _ => (none, 0)) _ HG.out HE.out (World.ownsRow_nil _ _ _ _) ⟨.inl rfl, fun k hk => by simp at hk⟩ (fun k hk => by simp at hk) hb1
end Go.Proofs.Ytmmjdabioolodaa
