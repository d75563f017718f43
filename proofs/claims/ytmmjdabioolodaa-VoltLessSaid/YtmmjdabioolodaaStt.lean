/- The smoothest course with voltages behind it: package volt's contract. -/
import Derived.Test.YtmmjdabioolodaaCrs
namespace Go.Proofs.Ytmmjdabioolodaa
open Go.RowKit

theorem crs_info : (Try.prog.info? 92).map (fun i => (i.zero, i.size, i.bytes)) = some (some (.agg #[.slice none 0 0, .int .i64 0]), 2, 32) := by kernel_rfl
def sExt (S : Rows) (m : Nat) (B : Option Addr) (c : Nat) : Rows := fun k => if k < m then S k else (B, c)
theorem rowsV_ext (S : Rows) (ls : List (List Int)) (v : List Int) (B : Option Addr) (c : Nat) : rowsV (sExt S ls.length B c) (ls ++ [v]) = rowsV S ls ++ [.slice B v.length c] := by
  unfold rowsV
  rw [List.length_append, List.length_singleton, List.range_succ, List.map_append]
  congr 1
  · refine List.map_congr_left fun k hk => ?_
    have hk := List.mem_range.1 hk
    unfold rowV sExt
    rw [if_pos hk, getD_l hk]
  · simp only [List.map_singleton, rowV, sExt]
    rw [if_neg (by omega), getD_r (Nat.le_refl _), Nat.sub_self]; rfl
theorem rowsV_one (S : Rows) (ls : List (List Int)) : ∀ u ∈ rowsV S ls, u.oneCell' = true := by
  intro u hu
  obtain ⟨k, _, rfl⟩ := List.mem_map.1 hu
  rfl
theorem bestTo_succ (cs : List Crs) (v : List Int) (k : Nat) : bestTo cs v (k + 1) = if jumpTo' (cs.getD k crsD) v < (bestTo cs v k).2 then (k, jumpTo' (cs.getD k crsD) v) else bestTo cs v k := rfl
/-- A new course: its steps a row of the call's own. -/
def OutC (S : Nat → Rows) (cs : List Crs) (v : List Int) (B : Option Addr) (cap' : Nat) (w : World) (e : Ending) (w' : World) : Prop :=
  ∃ A' c', e = .returned (.agg #[.slice A' (smoothTo cs v).1.length c', .int .i64 (smoothTo cs v).2]) ∧
      w'.ownsRow w.heap.size 23 1 (.slice A' (smoothTo cs v).1.length c') (smoothTo cs v).1.length (rowsV (sExt (S (bestL cs v).1) (cs.getD (bestL cs v).1 crsD).1.length B cap') (smoothTo cs v).1) ∧ Below w.heap.size w w'
set_option maxRecDepth 100000 in
set_option maxHeartbeats 4000000 in
theorem smoothestTo_c (A B : Option Addr) (V : Rows) (S : Nat → Rows) (cs : List Crs) (n : Nat) (v : List Int) (cap cap' : Nat) (w : World) (hn : n ≤ 3) (hp : 0 < cs.length) (hlen : cs.length ≤ 1000) (hcs : ∀ i, i < cs.length → CrsOk n (cs.getD i crsD)) (hv : OkV v n 3) (hr : CT w A V S cs) (hs : Rd w B (ints v)) :
    Calls Try.prog 94 #[.slice A cs.length cap, .slice B v.length cap'] w (OutC S cs v B cap' w) := by
  obtain ⟨b, o, rfl, hbl, HC⟩ := hr.all_ hp
  replace HC := Lib.hid HC
  have HJ := fun i (hi : i < cs.length) w1 (hb : Below w.heap.size w w1) => Lib.hid (jumpTo_c (V i).1 B (S i) (cs.getD i crsD) n v (V i).2 cap' w1 hn (hcs i hi) hv ((hr.row i hi).later hb) (hs.later hb))
  have HBS := Lib.hid (bestTo_succ cs v)
  have HB0 : Hid (bestTo cs v 0 = (0, jumpTo' (cs.getD 0 crsD) v)) := rfl
  have HBL : Hid (bestL cs v = bestTo cs v cs.length) := rfl
  have HBO := Lib.hid (fun k => bestTo_ok (cs := cs) (v := v) hp k)
  have HFIN : Hid (∀ A' c' w', w'.ownsRow w.heap.size 23 1 (.slice A' ((cs.getD (bestL cs v).1 crsD).1.length + 1) c') ((cs.getD (bestL cs v).1 crsD).1.length + 1) (rowsV (S (bestL cs v).1) (cs.getD (bestL cs v).1 crsD).1 ++ [.slice B v.length cap']) → Below w.heap.size w w' → OutC S cs v B cap' w (.returned (.agg #[.slice A' ((cs.getD (bestL cs v).1 crsD).1.length + 1) c', .int .i64 (bestL cs v).2])) w') := fun A' c' w' h1 h2 => by
    have hl : (smoothTo cs v).1.length = (cs.getD (bestL cs v).1 crsD).1.length + 1 := by unfold smoothTo; simp [crsD]
    have hr : (smoothTo cs v).1 = (cs.getD (bestL cs v).1 crsD).1 ++ [v] := rfl
    refine ⟨A', c', by rw [hl]; rfl, ?_, h2⟩
    rw [hl, hr, rowsV_ext]; exact h1
  generalize OutC S cs v B cap' w = FO at HFIN ⊢
  have hx0 : Bx (w.alloc (.cells #[.slice none 0 0, .int .i64 0] 92)) w.heap.size 92 #[.slice none 0 0, .int .i64 0] := Bx.new w _ _
  have hb0 := bl_alloc (Below.refl w.heap.size w) (.cells #[.slice none 0 0, .int .i64 0] 92)
  obtain ⟨d1, d2⟩ := HC.out _ hb0 0 hp
  rw [Nat.zero_mul, Nat.add_zero] at d1 d2
  have hpp : (0 : Int) < (cs.length : Int) := by omega
  have hsz0 : w.heap.size < (w.alloc (.cells #[.slice none 0 0, .int .i64 0] 92)).heap.size := by rw [World.size_alloc]; omega
  have HJ0 := HJ 0 hp _ hb0
  generalize cs.getD 0 crsD = c0 at *
  go_enter Try.func94, Try.ntmps94
  go_wp2_with (fail)
  refine HJ0.out.mono ?_
  rintro e w1 ⟨rfl, hb1⟩
  have hx1 := hx0.call hb1
  have hb01 := bl_call hb0 hb1
  clear HJ0 d1 d2 hx0 hb0 hsz0
  go_wp2_with (fail)
  go_loopg [5, 6, 17] cs.length (fun gk bv lv iv wr => ∃ k : Nat, Hid (k + gk = cs.length) ∧ iv = .int .i64 (k : Int) ∧ bv = .int .i64 ((bestTo cs v k).1 : Int) ∧ lv = .int .i64 (bestTo cs v k).2 ∧ Bx wr w.heap.size 92 #[.slice none 0 0, .int .i64 0] ∧ Below w.heap.size w wr)
  case atStart => exact ⟨0, by simp [Hid], rfl, by rw [HB0.out]; rfl, by rw [HB0.out], hx1, hb01⟩
  case round =>
    clear hx1 hb01
    obtain ⟨k, HK, rfl, rfl, rfl, hx, hb⟩ := hrel
    rcases gk with _ | gi
    · obtain rfl : k = cs.length := HK.out
      rw [← HBL.out]
      obtain ⟨k1, _, _⟩ := HBO.out cs.length (Nat.le_refl _)
      rw [← HBL.out] at k1
      have hok := hcs _ k1
      obtain ⟨c1, c2⟩ := HC.out wr hb _ k1
      have hrt := (hr.row _ k1).later hb
      have hlt : ((bestL cs v).1 : Int) < (cs.length : Int) := by omega
      have hb5 := hok.len
      have HCL := Lib.hid (cloneT_c (V (bestL cs v).1).1 (cs.getD (bestL cs v).1 crsD).1.length (rowsV (S (bestL cs v).1) (cs.getD (bestL cs v).1 crsD).1) (V (bestL cs v).1).2 wr (by simp) (by omega) (rowsV_one _ _) hrt.top)
      generalize (cs.getD (bestL cs v).1 crsD).1 = st at *
      clear hok k1 hrt HBO HBS HB0 HBL HJ HC
      generalize bestL cs v = bl at *
      obtain ⟨bi, bj⟩ := bl
      simp only [] at c1 hlt
      generalize rowsV (S bi) st = hs0 at *
      go_wp2_with (fail)
      refine HCL.out.mono ?_
      rintro e w2 ⟨A2, cc2, rfl, hown, hb2⟩
      have hx2 := hx.call hb2
      obtain ⟨A3, c3, w3, hrun, hown3, hb3, hg3⟩ := append_slice wr.heap.size w2 _ st.length hs0 (.slice B v.length cap') rfl hown (by omega) hb2.size
      have E1 := Lib.hid hrun
      have hx3 := bx_grown (T := 92) (hown.alloc (.cells #[.slice B v.length cap'] 23)) hg3 (by decide) (hx2.alloc _)
      have hb03 : Below w.heap.size w w3 := (bl_call hb hb2).trans (hb3.mono hb.size)
      have hown4 := own_mod (S := fun q => q = w.heap.size) hown3 ((Mod.refl (fun q => q = w.heap.size) w3).setCell (g := w.heap.size) (i := 0) (.inr rfl) (.slice A3 (st.length + 1) c3)) (fun q hq h => by have := (hown3.lt q hq).1; have := hx.lt; omega)
      have hown5 := own_mod (S := fun q => q = w.heap.size) hown4 ((Mod.refl (fun q => q = w.heap.size) _).setCell (g := w.heap.size) (i := 1) (.inr rfl) (.int .i64 bj)) (fun q hq h => by have := (hown4.lt q hq).1; have := hx.lt; omega)
      have hb5' := bl_set (bl_set hb03 (g := w.heap.size) (i := 0) (Nat.le_refl _) (.slice A3 (st.length + 1) c3)) (g := w.heap.size) (i := 1) (Nat.le_refl _) (.int .i64 bj)
      have hwr := hb.size
      have HX3 := Lib.hid (hx3.set2 (.slice A3 (st.length + 1) c3) (.int .i64 bj))
      obtain ⟨y0, y1, z0, z1⟩ := hx3.two
      clear hrun hg3 hown hown3 hown4 hx2 HCL hx3
      go_wp2_with (at_builtin; refine wpList_append_eq rfl _ _ 22 rfl _ _ _ w3 rfl rfl E1.out ?_)
      refine bodyPost_ret (results_cell_row rfl _ _ w.heap.size 92 _ (0, 0) _ rfl HX3.out Try.underlying92 rfl (by kernel_rfl)) rfl ?_
      exact HFIN.out A3 c3 _ (own_base hown5 hwr) hb5'
    · have hkN : k < cs.length := by have := HK.out; omega
      have hkN' : (k : Int) < (cs.length : Int) := by omega
      obtain ⟨c1, c2⟩ := HC.out wr hb k hkN
      have HBK := Lib.hid (HBS.out k)
      have hxw : Bx (wr.alloc (.cells #[.slice (V k).1 (cs.getD k crsD).1.length (V k).2, .int .i64 (cs.getD k crsD).2] 92)) wr.heap.size 92 #[.slice (V k).1 (cs.getD k crsD).1.length (V k).2, .int .i64 (cs.getD k crsD).2] := Bx.new wr _ _
      have hbw := bl_alloc hb (.cells #[.slice (V k).1 (cs.getD k crsD).1.length (V k).2, .int .i64 (cs.getD k crsD).2] 92)
      have hx2 := hx.alloc (.cells #[.slice (V k).1 (cs.getD k crsD).1.length (V k).2, .int .i64 (cs.getD k crsD).2] 92)
      have HJk := HJ k hkN _ hbw
      obtain ⟨y0, y1, z0, z1⟩ := hxw.two
      generalize jumpTo' (cs.getD k crsD) v = j at *
      generalize (cs.getD k crsD).1.length = m at *
      generalize (cs.getD k crsD).2 = cj at *
      generalize bestTo cs v k = bl at *
      obtain ⟨bi, bj⟩ := bl
      simp only [] at HBK
      go_wp2_with (fail)
      refine HJk.out.mono ?_
      rintro e w2 ⟨rfl, hb2⟩
      have hb02 := bl_call hbw hb2
      have hx3 := hx2.call hb2
      clear hxw hbw hx2 HJk y0 y1 z0 z1 c1 c2
      by_cases hlt : j < bj
      · rw [if_pos hlt] at HBK
        go_wp2_with (fail)
        go_roundg gi
        case rel => exact ⟨k + 1, by have := HK.out; show _ = _; omega, by go_num, by rw [HBK.out], by rw [HBK.out], hx3, hb02⟩
        case measure => omega
      · rw [if_neg hlt] at HBK
        go_wp2_with (fail)
        go_roundg gi
        case rel => exact ⟨k + 1, by have := HK.out; show _ = _; omega, by go_num, by rw [HBK.out], by rw [HBK.out], hx3, hb02⟩
        case measure => omega
end Go.Proofs.Ytmmjdabioolodaa
