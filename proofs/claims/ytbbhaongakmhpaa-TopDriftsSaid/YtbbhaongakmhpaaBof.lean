/- Bounds by their times: package drift's map. -/
import Derived.Test.YtbbhaongakmhpaaMapD
import Derived.Carry
namespace Go.Proofs.Ytbbhaongakmhpaa
open Go.RowKit Go.Maps

theorem intKey : Keyed Try.prog 3 := int_keyed Try.underlying3
abbrev OwnM (w : World) (b n : Nat) (D : DataW Unit) : Prop := w.ownsMap Try.prog 3 arrE b n D
theorem OwnM.call {w w' : World} {b n : Nat} {D : DataW Unit} (h : OwnM w b n D) (hb : Below w.heap.size w w') : OwnM w' b n D := by
  have hlt := World.ownsMap.lt h
  obtain ⟨es, clock, hbl, F, hs, hD⟩ := h
  exact ⟨es, clock, (hb.block b hlt).trans hbl, F, hs, hD⟩
theorem grown_bl {a b c : World} {g : Nat} (h : Below a.heap.size a b) (hg : b.grownBy c (some g)) (hp : a.heap.size ≤ g) : Below a.heap.size a c := h.grown hg h.size (fun k e => by injection e with e; subst e; exact hp)
theorem key_lit {t : Int} (h0 : -5000 ≤ t) (h1 : t ≤ 5000) : keyOf Try.prog 3 (.int .i64 t) = some (key t) := keyOf_int_mk Try.underlying3 (WalkArith.wf_i64 ⟨by omega, by omega⟩)
theorem holds_take {l : List T3} {r : Int} (hl : Ok l) {D : DataW Unit} {k : Nat} (hk : k < l.length) (h : Holds D (timesL (l.take k)) (bndF l r)) :
    Holds (D.put (key (tm l k)) (encD (lowB l r (tm l k), highB l r (tm l k)))) (timesL (l.take (k + 1))) (bndF l r) := by
  have e : timesL (l.take (k + 1)) = timesL (l.take k) ++ [tm l k] := by
    unfold timesL
    rw [List.take_succ_eq_append_getElem hk, List.map_append]
    simp [tm, hk]
  rw [e]
  have hn : tm l k ∉ timesL (l.take k) := by
    rw [times_mem]
    rintro ⟨j, hj, he⟩
    have hj2 : j < k := by simp at hj; omega
    have : tm (l.take k) j = tm l j := by unfold tm; simp [hj2]
    rw [this] at he
    have := tm_inj hl (by omega) hk he
    omega
  exact holds_put (f := bndF l r) h hn
set_option maxRecDepth 100000 in
set_option maxHeartbeats 4000000 in
theorem boundsOf_c (A : Option Addr) (l : List T3) (cap : Nat) (r : Int) (w : World) (hl : Ok l) (r0 : 0 ≤ r) (r9 : r ≤ 9) (hr : Rd w A (cellsT l)) :
    Calls Try.prog 75 #[.slice A l.length cap, .int .i64 r] w fun e w' => ∃ b D, e = .returned (.map (some b)) ∧ OwnM w' b l.length D ∧ Hid (Holds D (timesL l) (bndF l r)) ∧ w.heap.size ≤ b ∧ Below w.heap.size w w' := by
  have hlen : l.length ≤ 1000 := Nat.le_trans hl.len (by decide)
  have HB := Lib.hid (fun t w' (h : Below w.heap.size w w') (ht : 0 ≤ t) (ht2 : t ≤ 2000) => boundsAt_c A l cap r t w' hl.ne hlen (hl.fit r0 r9) ht ht2 (hr.later (w' := w') h))
  have HT := Lib.hid (fun k (h : k < l.length) => (⟨hl.t0 k h, hl.t1 k h⟩ : 0 ≤ tm l k ∧ tm l k ≤ 1000))
  have HS := Lib.hid (fun D k (h : k < l.length) (hh : Holds D (timesL (l.take k)) (bndF l r)) => holds_take hl h hh)
  have hm := @run_makeMap Try.prog
  have hb0 := bl_alloc (Below.refl w.heap.size w) (.map #[] 0)
  have hown0 : OwnM (w.alloc (.map #[] 0)) w.heap.size 0 (.map []) := World.ownsMap_made w _ _ _
  clear hl
  go_enter Try.func75, Try.ntmps75
  go_wp2_with (fail)
  clear hm
  go_loopg [11] l.length (fun gk iv wr => ∃ (k : Nat) (D : DataW Unit), Hid (k + gk = l.length) ∧ iv = .int .i64 (k : Int) ∧ OwnM wr w.heap.size k D ∧ Hid (Holds D (timesL (l.take k)) (bndF l r)) ∧ Below w.heap.size w wr)
  case atStart => exact ⟨0, _, by simp [Hid], rfl, hown0, holds_nil _, hb0⟩
  case round =>
    obtain ⟨k, D, HK, rfl, hown, HH, hb⟩ := hrel
    clear hown0 hb0
    rcases gk with _ | gi
    · obtain rfl : k = l.length := HK.out
      go_wp2_with (fail)
      go_ret
      exact ⟨_, D, rfl, hown, by have := HH.out; rw [List.take_length] at this; exact this, Nat.le_refl _, hb⟩
    · have hlt : k < l.length := by have := HK.out; omega
      have hlt' : (k : Int) < (l.length : Int) := by omega
      obtain ⟨q0, q1⟩ := HT.out k hlt
      obtain ⟨b', o, rfl, hbl, c0_, c1_, c2_⟩ := (hr.later hb).tri hlt
      have c0 : wr.cell? ⟨b', o + k * 3, none⟩ = some (.int .i64 (tm l k)) := c0_
      have c1 : wr.cell? ⟨b', o + k * 3 + 1, none⟩ = some (.int .i64 (lw l k)) := c1_
      have c2 : wr.cell? ⟨b', o + k * 3 + 2, none⟩ = some (.int .i64 (hg l k)) := c2_
      clear c0_ c1_ c2_
      have HS2 := Lib.hid (HS.out D k hlt HH.out)
      have hkey := key_lit (t := tm l k) (by omega) (by omega)
      have HC := Lib.hid (fun w' h => HB.out (tm l k) w' h q0 (by omega))
      generalize tm l k = T at *
      generalize lw l k = L at *
      generalize hg l k = H at *
      generalize hlo : lowB l r T = lo at *
      generalize hhi : highB l r T = hi at *
      clear hlo hhi
      obtain ⟨W0, hW0⟩ : ∃ W0, W0 = wr.alloc (.cells #[.int .i64 T, .int .i64 L, .int .i64 H] 55) := ⟨_, rfl⟩
      have hbA : Below w.heap.size w W0 := by rw [hW0]; exact bl_alloc hb _
      have hoA : OwnM W0 w.heap.size k D := by rw [hW0]; exact hown.alloc _
      have hvA : Bx W0 wr.heap.size 55 #[.int .i64 T, .int .i64 L, .int .i64 H] := by rw [hW0]; exact Bx.new _ _ _
      have HCL : Hid (∀ w1, Below W0.heap.size W0 w1 → w1.cell? ⟨wr.heap.size, 0, none⟩ = some (.int .i64 T)) := fun w1 hw => (hvA.call hw).three.1
      have hbW : Below W0.heap.size W0 W0.drew := (Below.refl _ _).drew
      go_wp2_with (fail)
      rw [← hW0]
      clear hW0 c0 c1 c2 hvA hown
      refine wp_region_low_tail 8 (hbW) (by kernel_rfl) (by kernel_rfl) ?_
      simp only [List.take_succ_cons, List.take_zero, List.drop_succ_cons, List.drop_zero]
      repeat (first
        | go_big_quiet_skip
        | (go_big_quiet_want
           apply Exists.intro
           refine And.intro (fun W hW => ?_) ?_
           · (have z0 := HCL.out W hW)
             go_simp
             first
               | exact rfl
               | (refine (HC.out W (bl_call hbA hW)).mono ?_; rintro e w1 ⟨rfl, hb1⟩; exact ⟨rfl, bl_call hW hb1⟩)
           try go_simp
           go_big_quiet_on))
      refine wpQuiet_nil ?_
      intro w9 hb9
      refine wpList_mapUpdate_own _ rfl _ _ _ 82 rfl 3 65 intKey Try.underlying82 arrE w.heap.size k D rfl (hoA.call hb9) (by unfold maxLen; omega) _ _ _ rfl rfl hkey _ [] (arrE_mk lo hi) ?_
      intro wz hoz hgz
      have hbz := grown_bl (bl_call hbA hb9) hgz (Nat.le_refl _)
      go_wp2_with (fail)
      go_roundg gi
      case rel => exact ⟨k + 1, _, by have := HK.out; show _ = _; omega, by go_num, hoz, HS2, hbz⟩
      case measure => omega
end Go.Proofs.Ytbbhaongakmhpaa
