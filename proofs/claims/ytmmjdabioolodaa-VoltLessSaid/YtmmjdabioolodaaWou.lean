/- Gains without an electrode: package volt's contract. A table copied. -/
import Derived.Test.YtmmjdabioolodaaDelI
import Derived.Test.YtmmjdabioolodaaDef
import Derived.Test.YtmmjdabioolodaaCut
namespace Go.Proofs.Ytmmjdabioolodaa
open Go.RowKit

def lesE (g : List (List Int)) (k : Int) : Int := if okG g = true then (if 0 ≤ k ∧ k < wires g then (if wires g = 1 then 1 else 0) else 4) else 1
def lesG (g : List (List Int)) (k : Int) : List (List Int) := if lesE g k = 0 then lessL g k.toNat else []
theorem les_ok {g : List (List Int)} {k : Int} (h : lesE g k = 0) : okG g = true ∧ 0 ≤ k ∧ k < wires g ∧ wires g ≠ 1 ∧ lesG g k = lessL g k.toNat := by
  have h' := h
  unfold lesE at h
  split at h
  · rename_i h1
    split at h
    · rename_i h2
      split at h
      · cases h
      · rename_i h3; exact ⟨h1, h2.1, h2.2, h3, by unfold lesG; rw [if_pos h']⟩
    · cases h
  · cases h
theorem les_no {g : List (List Int)} {k : Int} (h : lesE g k ≠ 0) : lesG g k = [] := by unfold lesG; rw [if_neg h]
theorem make_rows (n : Nat) (hn : n ≤ 1024) (w : World) : ∃ cs, (Instr.makeSlice 22 (.int .i64 n) (.int .i64 n)).run Try.prog w = .ok (.slice (some ⟨w.heap.size, 0, none⟩) n n) (w.alloc (.cells cs 23)) ∧ cs = (List.replicate n (Value.slice none 0 0)).toArray := by
  obtain ⟨i0, hi, hz0, hz1, hz2⟩ := info_parts slice_info
  have h := run_make (P := Try.prog) w 22 23 i0 _ Try.underlying22 hi hz0 .i64 .i64 (n : Int) (n : Int) (by omega) (by omega) (by rw [hz2]; omega) (by omega)
  simp only [Int.toNat_natCast] at h
  refine ⟨_, h, ?_⟩
  rw [hz1, Nat.mul_one]
  apply Array.ext
  · simp [size_madeCells]
  · intro i h1 h2
    simp [madeCells, Value.cells]
    rw [Nat.mod_one]; rfl
theorem bx_own {w : World} {g base n : Nat} {T : TypeId} {cs : List Value} (h : Bx w g T cs.toArray) (hl : cs.length = n) (hb : base ≤ g) (hn : n ≤ 1000) : w.ownsRow base T 1 (.slice (some ⟨g, 0, none⟩) n n) n cs :=
  ⟨by rw [Nat.mul_one]; exact hl, .inr ⟨g, n, cs.toArray, rfl, hb, h, Nat.le_refl _, by unfold maxLen; omega, by simp [hl], by rw [Nat.mul_one, ← hl]; simp⟩⟩
/-- A slice is stored in a row of slices: the lists that they read as stay. -/
theorem tab_set {w : World} {base g i : Nat} {hs : List Value} {ls : List (List Int)} {cs : Array Value} (h : Tab w base hs ls) (hx : Bx w g 23 cs) (u : Value) : Tab (w.setCell ⟨g, i, none⟩ u) base hs ls :=
  ⟨h.1, fun k hk => by
    obtain ⟨A, c, h1, h2⟩ := h.2 k hk
    refine ⟨A, c, h1, own_mod (S := fun q => q = g) h2 (Mod.setCell (S := fun q => q = g) (g := g) (i := i) (Mod.refl _ w) (.inr rfl) u) (fun q hq h => ?_)⟩
    rcases h2.2 with ⟨hv, _⟩ | ⟨g', cap, cur, hv, _, hg', _⟩
    · rw [hv] at hq; cases hq
    · rw [hv] at hq
      have h3 : w.heap[g]? = some (.cells cs 23 (0, 0)) := hx
      have h4 : g' = g := by injection hq with hq; exact hq.trans h
      rw [← h4, hg'] at h3
      injection h3 with h3
      injection h3 with _ h3
      exact absurd h3 (by decide)⟩
theorem fill_set {n k : Nat} {hs : List Value} (hl : hs.length = k) (hk : k < n) (v z : Value) : (hs ++ List.replicate (n - k) z).set k v = (hs ++ [v]) ++ List.replicate (n - (k + 1)) z := by
  rw [List.set_append_right _ _ (by omega), hl, Nat.sub_self, show n - k = (n - (k + 1)) + 1 by omega, List.replicate_succ, List.set_cons_zero, List.append_assoc]; rfl
theorem less_take {g : List (List Int)} {k i : Nat} (h : k < g.length) : (lessL g i).take (k + 1) = (lessL g i).take k ++ [(g.getD k []).eraseIdx i] := by
  rw [row_take_succ (by simpa using h), lessL_get h]
set_option maxRecDepth 100000 in
set_option maxHeartbeats 8000000 in
theorem Without_c (A : Option Addr) (R : Rows) (g : List (List Int)) (cap : Nat) (x : Int) (w : World) (hl : Brief g) (hr : RT w A R g) :
    Calls Try.prog 50 #[.slice A g.length cap, .int .i64 x] w (OutTab (lesG g x) (lesE g x) w) := by
  have HV := Lib.hid (Validate_c A R g cap w hl hr)
  have HFO : Hid (∀ (n : Nat) (E : Int) (A' : Option Addr) (c' : Nat) (S : Rows) (w' : World), (lesG g x).length = n → lesE g x = E → w'.ownsRow w.heap.size 23 1 (.slice A' n c') n (rowsV S (lesG g x)) → RT w' A' S (lesG g x) → (∀ k, k < (lesG g x).length → w'.ownsRow w.heap.size 3 1 (.slice (S k).1 ((lesG g x).getD k []).length (S k).2) ((lesG g x).getD k []).length (ints ((lesG g x).getD k []))) → Below w.heap.size w w' → OutTab (lesG g x) (lesE g x) w (.returned (.tuple #[.slice A' n c', .int .i64 E])) w') := fun n E A' c' S w' h1 h2 h3 h4 h5 h6 => by
    subst h1 h2; exact ⟨A', c', S, rfl, h3, h4, h5, h6⟩
  have HNO : Hid (∀ (E : Int) w', lesE g x = E → E ≠ 0 → Below w.heap.size w w' → OutTab (lesG g x) (lesE g x) w (.returned (.tuple #[.slice none 0 0, .int .i64 E])) w') := fun E w' h1 h2 h3 => by
    rw [les_no (by rw [h1]; exact h2), h1]
    exact ⟨none, 0, fun _ => (none, 0), rfl, World.ownsRow_nil _ _ _ _, ⟨.inl rfl, fun k hk => by simp at hk⟩, fun k hk => by simp at hk, h3⟩
  rcases hx : okG g with _ | _
  · have HE : Hid (lesE g x = 1) := by show _ = _; unfold lesE; rw [hx]; rfl
    rw [hx] at HV
    go_enter Try.func50, Try.ntmps50
    go_wp2_with (fail)
    refine HV.out.mono ?_
    rintro e w1 ⟨rfl, hb1⟩
    rw [errB_f]
    go_wp2_with (fail)
    go_ret2
    exact HNO.out _ _ HE.out (by decide) hb1
  · have hg := okG_iff.1 hx
    have hp3 := hg.pts
    have hw3 := hg.wrs
    rw [hx] at HV
    have HW := fun w1 (hb : Below w.heap.size w w1) => Lib.hid (wiresOf_c A R g cap w1 (by omega) (hr.later hb))
    by_cases h0 : x < 0
    · have HE : Hid (lesE g x = 4) := by show _ = _; unfold lesE; rw [if_pos hx, if_neg (by omega)]
      go_enter Try.func50, Try.ntmps50
      go_wp2_with (fail)
      refine HV.out.mono ?_
      rintro e w1 ⟨rfl, hb1⟩
      rw [errB_t]
      go_wp2_with (fail)
      go_ret2
      exact HNO.out _ _ HE.out (by decide) hb1
    · by_cases h1 : x < wires g
      · have h1' : ¬ (wires g : Int) ≤ x := by omega
        by_cases h2 : wires g = 1
        · have HE : Hid (lesE g x = 1) := by show _ = _; unfold lesE; rw [if_pos hx, if_pos ⟨by omega, h1⟩, if_pos h2]
          rw [h2] at HW h1'
          rw [show ((1 : Nat) : Int) = 1 from rfl] at HW h1'
          clear h2 h1 hw3
          go_enter Try.func50, Try.ntmps50
          go_wp2_with (fail)
          refine HV.out.mono ?_
          rintro e w1 ⟨rfl, hb1⟩
          rw [errB_t]
          go_wp2_with (fail)
          refine (HW _ hb1).out.mono ?_
          rintro e w2 ⟨rfl, rfl⟩
          go_wp2_with (fail)
          refine (HW _ hb1).out.mono ?_
          rintro e w2 ⟨rfl, rfl⟩
          go_wp2_with (fail)
          go_ret2
          exact HNO.out _ _ HE.out (by decide) hb1
        · have hE : lesE g x = 0 := by unfold lesE; rw [if_pos hx, if_pos ⟨by omega, h1⟩, if_neg h2]
          have HE := Lib.hid hE
          obtain ⟨i, rfl⟩ : ∃ i : Nat, x = (i : Int) := ⟨x.toNat, by omega⟩
          have HG : Hid (lesG g (i : Int) = lessL g i) := (les_ok hE).2.2.2.2
          have hin : i < wires g := by omega
          have HGL : Hid ((lessL g i).length = g.length) := lessL_len g i
          have HTK : Hid (∀ k, k < g.length → (lessL g i).take (k + 1) = (lessL g i).take k ++ [(g.getD k []).eraseIdx i]) := fun k hk => less_take hk
          have HTA : Hid ((lessL g i).take g.length = lessL g i) := by show _ = _; rw [← HGL.out, List.take_length]
          have HT0 : Hid ((lessL g i).take 0 = []) := rfl
          have HRL : Hid (∀ k, k < g.length → (g.getD k []).length = wires g) := fun k hk => (hg.row k hk).len
          have hne1 : ((wires g : Int) == 1) = false := by simp; omega
          have h2' : ¬ (wires g : Int) = 1 := by omega
          have HMK := Lib.hid (make_rows g.length (by omega))
          clear hE h1 h0 hx hg HNO h2
          generalize hwn : wires g = n at *
          go_enter Try.func50, Try.ntmps50
          go_wp2_with (fail)
          refine HV.out.mono ?_
          rintro e w1 ⟨rfl, hb1⟩
          rw [errB_t]
          go_wp2_with (fail)
          refine (HW _ hb1).out.mono ?_
          rintro e w2 ⟨rfl, rfl⟩
          go_wp2_with (fail)
          refine (HW _ hb1).out.mono ?_
          rintro e w2 ⟨rfl, rfl⟩
          obtain ⟨cs, hmk, hcs⟩ := HMK.out w1
          have hx0 : Bx (w1.alloc (.cells cs 23)) w1.heap.size 23 ([] ++ List.replicate (g.length - 0) (Value.slice none 0 0)).toArray := by rw [hcs]; exact Bx.new w1 _ _
          have hb2 := bl_alloc hb1 (.cells cs 23)
          have hTs := hb1.size
          clear hcs HMK HW HV
          go_wp2_with (fail)
          generalize hT : w1.heap.size = T at *
          generalize w1.alloc (.cells cs 23) = w3 at *
          go_loopg [31] g.length (fun gk iv wr => ∃ (k : Nat) (hs : List Value), Hid (k + gk = g.length) ∧ iv = .int .i64 (k : Int) ∧ Bx wr T 23 (hs ++ List.replicate (g.length - k) (Value.slice none 0 0)).toArray ∧ Tab wr w.heap.size hs ((lessL g i).take k) ∧ Below w.heap.size w wr)
          case atStart => exact ⟨0, [], by simp [Hid], rfl, hx0, by rw [HT0.out]; exact Tab.nil _ _, hb2⟩
          case round =>
            clear hx0 hb2 hmk
            obtain ⟨k, hs, HK, rfl, hbx, htab, hb⟩ := hrel
            rcases gk with _ | gi
            · obtain rfl : k = g.length := HK.out
              rw [HTA.out] at htab
              rw [Nat.sub_self, List.replicate_zero, List.append_nil] at hbx
              have hsl : hs.length = g.length := by rw [htab.1, HGL.out]
              have hown := bx_own hbx hsl hTs (by omega)
              obtain ⟨S, rfl, hrt, hk2⟩ := htab.rt hown
              clear hbx htab hsl
              go_wp2_with (fail)
              go_ret2
              rw [← HG.out] at hrt hk2 hown
              exact HFO.out _ _ _ _ _ _ (by rw [HG.out]; exact HGL.out) HE.out hown hrt hk2 hb
            · have hkN : k < g.length := by have := HK.out; omega
              have hkN' : (k : Int) < (g.length : Int) := by omega
              have hrk := hr.later hb
              obtain ⟨b, o, rfl, _, hc⟩ := hrk.at_ hkN
              have hrow := hrk.row k hkN
              have hrl := HRL.out k hkN
              have hyi : i < (g.getD k []).length := by omega
              have hsl : hs.length = k := by have := htab.1; rw [this, List.length_take, HGL.out]; omega
              have HSET := Lib.hid (fun v => fill_set hsl hkN v (Value.slice none 0 0))
              have HTKk := Lib.hid (HTK.out k hkN)
              have HCL := Lib.hid (cloneI_c (R k).1 (g.getD k []) (R k).2 wr (by omega) hrow)
              have HDE : Hid (∀ A3 c3 w4, w4.ownsRow wr.heap.size 3 1 (.slice A3 (g.getD k []).length c3) (g.getD k []).length (ints (g.getD k [])) → Calls Try.prog 89 #[.slice A3 (g.getD k []).length c3, .int .i64 i, .int .i64 ((i : Int) + 1)] w4 fun e w' => e = .returned (.slice A3 ((g.getD k []).eraseIdx i).length c3) ∧ w'.ownsRow wr.heap.size 3 1 (.slice A3 ((g.getD k []).eraseIdx i).length c3) ((g.getD k []).eraseIdx i).length (ints ((g.getD k []).eraseIdx i)) ∧ Below wr.heap.size w4 w') := fun A3 c3 w4 h => deleteI_c wr.heap.size A3 (g.getD k []) c3 i w4 (by omega) hyi h
              have hi3 : i ≤ 3 := by omega
              have hlx : (hs ++ List.replicate (g.length - k) (Value.slice none 0 0)).length = g.length := by simp [hsl]; omega
              have HLX := Lib.hid hlx
              clear hrl hyi hrow hrk HTK HRL hlx
              generalize (g.getD k []).eraseIdx i = y' at *
              generalize (g.getD k []).length = ny at *
              generalize hcells : hs ++ List.replicate (g.length - k) (Value.slice none 0 0) = cells at *
              clear hcells
              go_wp2_with (fail)
              refine HCL.out.mono ?_
              rintro e w4 ⟨A3, c3, rfl, hown3, hb4⟩
              have HDE4 := Lib.hid (HDE.out A3 c3 w4 hown3)
              have hTl := hbx.lt
              have hbx4 := hbx.call hb4
              have htab4 := htab.call hb4
              have htab0 := htab
              have hb04 := bl_call hb hb4
              clear hown3 HDE HCL hbx htab
              go_wp2_with (fail)
              refine HDE4.out.mono ?_
              rintro e w5 ⟨rfl, hown5, hb5⟩
              have hb45 : Below wr.heap.size wr w5 := hb4.trans hb5
              have hbx5 : Bx w5 T 23 cells.toArray := (hb5.block T hTl).trans hbx4
              have htab5 : Tab w5 w.heap.size hs ((lessL g i).take k) := ⟨htab0.1, fun j hj => by
                obtain ⟨A, c, h1, h2⟩ := htab0.2 j hj
                exact ⟨A, c, h1, own_call h2 hb45⟩⟩
              have hb05 := bl_call hb hb45
              have hown5' := own_base hown5 hb.size
              have hset := hbx5.set k (.slice A3 y'.length c3)
              have hts := (tab_set htab5 hbx5 (i := k) (.slice A3 y'.length c3)).snoc (own_mod (S := fun q => q = T) hown5' (Mod.setCell (S := fun q => q = T) (g := T) (i := k) (Mod.refl _ w5) (.inr rfl) (.slice A3 y'.length c3)) (fun q hq h => by have := (hown5.lt q hq).1; have h' : q = T := h; omega))
              rw [← HTKk.out] at hts
              rw [List.setIfInBounds_toArray, HSET.out] at hset
              have hbF := bl_set hb05 (g := T) (i := k) hTs (.slice A3 y'.length c3)
              obtain ⟨c5, hc5⟩ : ∃ v, cells[k]? = some v := ⟨_, List.getElem?_eq_getElem (by rw [HLX.out]; exact hkN)⟩
              have d5 : w5.cell? ⟨T, k, none⟩ = some c5 := by rw [hbx5.cell k]; simpa using hc5
              have f5 := hbx5.free k
              have HTS := Lib.hid hts
              have HST := Lib.hid hset
              clear hts hset hown5 hown5' hbx5 htab5 hbx4 htab4 htab0 hc5 HDE4
              generalize y'.length = m5 at *
              go_wp2_with (fail)
              go_roundg gi
              case rel => exact ⟨k + 1, _, by have := HK.out; show _ = _; omega, by go_num, HST.out, HTS.out, hbF⟩
              case measure => omega
      · have h1' : (wires g : Int) ≤ x := by omega
        have HE : Hid (lesE g x = 4) := by show _ = _; unfold lesE; rw [if_pos hx, if_neg (by omega)]
        go_enter Try.func50, Try.ntmps50
        go_wp2_with (fail)
        refine HV.out.mono ?_
        rintro e w1 ⟨rfl, hb1⟩
        rw [errB_t]
        go_wp2_with (fail)
        refine (HW _ hb1).out.mono ?_
        rintro e w2 ⟨rfl, rfl⟩
        go_wp2_with (fail)
        go_ret2
        exact HNO.out _ _ HE.out (by decide) hb1
end Go.Proofs.Ytmmjdabioolodaa
