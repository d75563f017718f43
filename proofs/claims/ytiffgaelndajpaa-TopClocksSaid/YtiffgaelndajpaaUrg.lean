/- The table by urgency: package clock's. -/
import Derived.Test.YtiffgaelndajpaaNext
import Derived.Test.YtiffgaelndajpaaRow
namespace Go.Proofs.Ytiffgaelndajpaa
open Go.RowKit

theorem units_size : Try.zeroCells83.size = 540 := by kernel_rfl
/-- Numbers that a block holds at its beginning. -/
def Holds (w : World) (g : Nat) (T : TypeId) (N : Nat) (xs : List Int) : Prop := ∃ Z : Array Value, Z.size = N ∧ Bx w g T Z ∧ ∀ t, t < xs.length → Z[t]? = some (.int .i64 (xs.getD t 0))
theorem Holds.lt {w : World} {g : Nat} {T : TypeId} {N : Nat} {xs : List Int} (h : Holds w g T N xs) : g < w.heap.size := by
  obtain ⟨Z, _, h, _⟩ := h; exact h.lt
theorem Holds.mod {S : Nat → Prop} {w w' : World} {g : Nat} {T : TypeId} {N : Nat} {xs : List Int} (h : Holds w g T N xs) (hm : Mod S w w') (hn : ¬ S g) : Holds w' g T N xs := by
  obtain ⟨Z, h0, h, h2⟩ := h; exact ⟨Z, h0, h.mod hm hn, h2⟩
theorem Holds.call {w w' : World} {g : Nat} {T : TypeId} {N : Nat} {xs : List Int} (h : Holds w g T N xs) (hb : Below w.heap.size w w') : Holds w' g T N xs := by
  obtain ⟨Z, h0, h, h2⟩ := h; exact ⟨Z, h0, h.call hb, h2⟩
theorem Holds.put {w : World} {g : Nat} {T : TypeId} {N : Nat} {xs : List Int} (h : Holds w g T N xs) (hl : xs.length < N) (x : Int) : Holds (w.setCell ⟨g, xs.length, none⟩ (.int .i64 x)) g T N (xs ++ [x]) := by
  obtain ⟨Z, h0, h, h2⟩ := h
  refine ⟨Z.setIfInBounds xs.length (.int .i64 x), by simpa using h0, h.set _ _, fun t ht => ?_⟩
  rw [List.length_append, List.length_singleton] at ht
  rcases Nat.lt_or_ge t xs.length with y | y
  · rw [Array.getElem?_setIfInBounds_ne (by omega), h2 t y]
    simp [List.getD_eq_getElem?_getD, List.getElem?_append_left y]
  · obtain rfl : t = xs.length := by omega
    simp [List.getD_eq_getElem?_getD, h0, hl]
theorem Holds.far {w : World} {g g' i : Nat} {T : TypeId} {N : Nat} {xs : List Int} (h : Holds w g T N xs) (hp : g ≠ g') (u : Value) : Holds (w.setCell ⟨g', i, none⟩ u) g T N xs := by
  obtain ⟨Z, h0, h, h2⟩ := h; exact ⟨Z, h0, h.far hp u, h2⟩
theorem Holds.rd {w : World} {g : Nat} {T : TypeId} {N : Nat} {xs : List Int} (h : Holds w g T N xs) : Rd w (some ⟨g, 0, none⟩) (ints xs) := by
  obtain ⟨Z, h0, h, h2⟩ := h
  refine .inr ⟨g, 0, rfl, h.lt, fun k v hv => ?_⟩
  have hk : k < xs.length := by
    rcases Nat.lt_or_ge k xs.length with y | y
    · exact y
    · rw [List.getElem?_eq_none (by simpa using y)] at hv; cases hv
  rw [ints_get hk] at hv
  rw [Nat.zero_add, h.cell, h2 k hk]; exact hv
theorem Holds.spot {w : World} {g : Nat} {T : TypeId} {N : Nat} {xs : List Int} (h : Holds w g T N xs) {i : Nat} (hi : i < N) : (∃ v, w.cell? ⟨g, i, none⟩ = some v) ∧ w.frozen? ⟨g, i, none⟩ = false := by
  obtain ⟨Z, h0, h, h2⟩ := h
  exact ⟨⟨Z[i], by rw [h.cell]; simp [h0, hi]⟩, h.free i⟩

set_option maxRecDepth 100000 in
set_option maxHeartbeats 8000000 in
theorem tableBy_c (A : Option Addr) (l : List T3) (c : Nat) (w : World) (hl : Ok l) (hr : Rd w A (cellsT l)) :
    Calls Try.prog 59 #[.iface 68 (.agg #[]), .slice A l.length c] w fun e w' => ∃ c', e = .returned (.slice (some ⟨w.heap.size, 0, none⟩) (urgL l).length c') ∧ Rd w' (some ⟨w.heap.size, 0, none⟩) (ints (urgL l)) ∧ Below w.heap.size w w' := by
  have h8 := hl.len
  have hN := lenU_le hl
  have HN : Hid ((urgL l).length = lenU l) := unitsTo_len _ _
  have HU : Hid (urgL l = unitsTo l (lenU l)) := rfl
  have hb0 : Below w.heap.size w (w.alloc (.cells Try.zeroCells83 83)) := bl_alloc (Below.refl _ _) _
  have hz0 : Holds (w.alloc (.cells Try.zeroCells83 83)) w.heap.size 83 540 [] := ⟨Try.zeroCells83, units_size, Bx.new _ _ _, fun t h => by simp at h⟩
  have HC := Lib.hid (cloneJ_c A l c (w.alloc (.cells Try.zeroCells83 83)) (by omega) (hr.later hb0))
  have hs0 : w.heap.size < (w.alloc (.cells Try.zeroCells83 83)).heap.size := by rw [World.size_alloc]; omega
  have HSP := Lib.hid (lenG_spec (picks_next l) hl)
  have HLEN := Lib.hid (leftAt_len l)
  have HJ := Lib.hid (leftG_nonneg (picks_next l) hl.jobs)
  have HZ : Hid (∀ t, t < lenU l → 0 < sumN (leftAt l t)) := HSP.out.2.2
  have HE : Hid (sumN (leftAt l (lenU l)) = 0) := HSP.out.2.1
  have HPR := Lib.hid (pickAt_range l)
  have HSU := Lib.hid (unitsTo_succ l)
  have HUL := Lib.hid (unitsTo_len l)
  generalize lenU l = N at *
  go_enter Try.func59, Try.ntmps59
  go_wp2_with (fail)
  generalize w.alloc (.cells Try.zeroCells83 83) = w0 at *
  refine HC.out.mono ?_
  rintro e w2 ⟨A2, c2, rfl, ho2, hb2⟩
  have hz2 := hz0.call hb2
  have hb02 := bl_call hb0 hb2
  clear HC hz0
  go_wp2_with (fail)
  go_loopg [7] N (fun gk cv wr => ∃ k : Nat, Hid (k + gk = N) ∧ cv = .int .i64 (k : Int) ∧ wr.ownsRow (w.heap.size + 1) 40 3 (.slice A2 l.length c2) l.length (cellsT (leftAt l k)) ∧ Holds wr w.heap.size 83 540 (unitsTo l k) ∧ Below w.heap.size w wr)
  case atStart => exact ⟨0, by simp [Hid], rfl, own_base ho2 hs0, hz2, hb02⟩
  case round =>
    obtain ⟨k, HK, rfl, hown, hz, hb⟩ := hrel
    clear hz2 hb02 ho2
    have hkN : k ≤ N := by have := HK.out; omega
    have hor := (own_rd hown).1
    have HA := Lib.hid (isAnyLeft_c A2 (leftAt l k) c2 wr (by rw [HLEN.out]; omega) (HJ.out k) hor)
    rw [HLEN.out] at HA
    rcases gk with _ | gi
    · obtain rfl : k = N := HK.out
      rw [HE.out, decide_eq_false (by omega)] at HA
      go_wp2_with (fail)
      refine HA.out.mono ?_
      rintro e w3 ⟨rfl, hb3⟩
      have hk540 : (k : Int) ≤ 540 := by omega
      go_wp2_with (fail)
      go_ret
      exact ⟨k, by rw [HN.out]; rfl, by rw [HU.out]; exact (hz.call hb3).rd, bl_call hb hb3⟩
    · have hkl : k < N := by have := HK.out; omega
      rw [decide_eq_true (HZ.out k hkl)] at HA
      have HX : Hid (∀ w1, Rd w1 A2 (cellsT (leftAt l k)) → Calls Try.prog 79 #[.iface 68 (.agg #[]), .slice A2 l.length c2, .int .i64 k] w1 fun e w' => e = .returned (.int .i64 (pickAt l k)) ∧ Below w1.heap.size w1 w') := fun w1 h => by
        have := next_c A2 (leftAt l k) c2 k w1 (by rw [HLEN.out]; omega) (HJ.out k) h
        rw [HLEN.out] at this
        exact this
      have HS : Hid (leftAt l (k + 1) = stepL (leftAt l k) (pickAt l k)) := leftAt_succ l k
      have HP := Lib.hid (HPR.out k)
      have HS2 := Lib.hid (HSU.out k)
      have HUK := Lib.hid (HUL.out k)
      go_wp2_with (fail)
      refine HA.out.mono ?_
      rintro e w3 ⟨rfl, hb3⟩
      go_wp2_with (fail)
      refine (HX.out _ (hor.later hb3)).mono ?_
      rintro e w4 ⟨rfl, hb4⟩
      have hb34 := bl_call hb3 hb4
      have hown4 := own_call hown hb34
      have hz4 := hz.call hb34
      have hbw4 := bl_call hb hb34
      clear HA HX hown hz hb hb3 hb4 hb34 hor
      generalize pickAt l k = f at *
      obtain ⟨hf1, hf2⟩ := HP.out
      have hk540 : (k : Int) < 540 := by omega
      by_cases hf : f = -1
      · subst hf
        have HS3 := HS.out
        rw [stepL_none] at HS3
        have HS4 := Lib.hid HS3
        obtain ⟨⟨v, hv1⟩, hv2⟩ := hz4.spot (i := k) (by omega)
        have hp := hz4.put (by rw [HUK.out]; omega) (-1)
        rw [HUK.out, ← HS2.out] at hp
        clear HS3 HS HS2
        go_wp2_with (fail)
        go_roundg gi
        case rel =>
          refine ⟨k + 1, by have := HK.out; show _ = _; omega, by go_num, ?_, hp, bl_set hbw4 (Nat.le_refl _) _⟩
          rw [HS4.out]
          exact own_mod hown4 ((Mod.refl (fun b => b = w.heap.size) w4).setCell (.inr rfl) _) (fun b hb h => by have := (hown4.lt b hb).1; omega)
        case measure => omega
      · obtain ⟨i, rfl⟩ := Int.eq_ofNat_of_zero_le (show 0 ≤ f by omega)
        have hil : i < l.length := by omega
        have hne : ((i : Int) != -1) = true := by rw [bne_iff_ne]; omega
        have HS3 : Hid (leftAt l (k + 1) = (leftAt l k).set i (((leftAt l k).getD i t0).1, ((leftAt l k).getD i t0).2.1, ((leftAt l k).getD i t0).2.2 - 1)) := by
          show _ = _
          rw [HS.out, stepL, if_neg (by omega), Int.toNat_natCast]; rfl
        have hj := ((HJ.out k).get (k := i) (by rw [show leftG nextF l k = leftAt l k from rfl, HLEN.out]; exact hil))
        rw [show leftG nextF l k = leftAt l k from rfl] at hj
        have hn0 := hj.n0
        have hn1 := hj.n1
        obtain ⟨g, rfl, hbg, hgl, ⟨c0, c1, c3⟩, c4, hput⟩ := own_putT hown4 (HLEN.out k) hil
        have hp2 := hput (((leftAt l k).getD i t0).2.2 - 1)
        rw [← HS3.out] at hp2
        have HP2 := Lib.hid hp2
        clear hput hj HS HS3 hp2 hf HP
        generalize (leftAt l k).getD i t0 = x at *
        obtain ⟨x0, x1, x2⟩ := x
        simp only [] at c0 c1 c3 hn0 hn1 HP2
        have hgne : w.heap.size ≠ g := by omega
        have hz5 := hz4.far (g' := g) (i := i * 3 + 2) hgne (.int .i64 (x2 - 1))
        have hbw5 := bl_set hbw4 (g := g) (i := i * 3 + 2) (by omega) (.int .i64 (x2 - 1))
        obtain ⟨⟨v, hv1⟩, hv2⟩ := hz5.spot (i := k) (by omega)
        have hp := hz5.put (by rw [HUK.out]; omega) i
        rw [HUK.out, ← HS2.out] at hp
        clear HS2 hown4
        go_wp2_with (fail)
        go_roundg gi
        case rel =>
          refine ⟨k + 1, by have := HK.out; show _ = _; omega, by go_num, ?_, hp, bl_set hbw5 (Nat.le_refl _) _⟩
          exact own_mod HP2.out ((Mod.refl (fun b => b = w.heap.size) _).setCell (.inr rfl) _) (fun b hb h => by have := (HP2.out.lt b hb).1; omega)
        case measure => omega
end Go.Proofs.Ytiffgaelndajpaa
