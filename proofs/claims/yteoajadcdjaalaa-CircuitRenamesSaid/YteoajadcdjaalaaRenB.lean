/- renamed and Rename. -/
import Derived.Test.YteoajadcdjaalaaRen
namespace Go.Proofs.Yteoajadcdjaalaa
open Go.RowKit

set_option maxRecDepth 100000 in
set_option maxHeartbeats 1000000 in
theorem renamed_c (k a b t : Int) (A : Option Addr) (to : List Int) (c : Nat) (w : World) (_hlen : to.length ≤ 1000) (hr : Rd w A (ints to)) (ha : 0 ≤ a ∧ a < to.length) (hb : k = 2 → 0 ≤ b ∧ b < to.length) :
    Calls Try.prog 84 #[.agg #[.int .i64 k, .int .i64 a, .int .i64 b, .int .i64 t], .slice A to.length c] w
      fun e w' => e = .returned (.agg #[.int .i64 (renG to (k, a, b, t)).1, .int .i64 (renG to (k, a, b, t)).2.1, .int .i64 (renG to (k, a, b, t)).2.2.1, .int .i64 (renG to (k, a, b, t)).2.2.2]) ∧ Below w.heap.size w w' := by
  obtain ⟨a', rfl⟩ : ∃ a' : Nat, a = (a' : Int) := ⟨a.toNat, by omega⟩
  have hal : a' < to.length := by omega
  have hal' : (a' : Int) < (to.length : Int) := by omega
  obtain ⟨b0, o, rfl, hbl, hc⟩ := ints_cell hr hal
  have qa := hc a' hal
  have hne : b0 ≠ w.heap.size := by omega
  have hne1 : b0 ≠ w.heap.size + 1 := by omega
  by_cases hk : k = 2
  · subst hk
    obtain ⟨h1, h2⟩ := hb rfl
    obtain ⟨b', rfl⟩ : ∃ b' : Nat, b = (b' : Int) := ⟨b.toNat, by omega⟩
    have hbl' : (b' : Int) < (to.length : Int) := by omega
    have qb := hc b' (by omega)
    have e : renG to (2, (a' : Int), (b' : Int), t) = (2, min (to.getD a' 0) (to.getD b' 0), max (to.getD a' 0) (to.getD b' 0), t) := rfl
    rw [e]
    clear e hc hb
    generalize to.getD a' 0 = x at *
    generalize to.getD b' 0 = y at *
    go_enter Try.func84, Try.ntmps84
    go_wp2_with (fail)
    exact bodyPost_ret (v := .agg #[.int .i64 2, .int .i64 (min x y), .int .i64 (max x y), .int .i64 t]) (by simp [results, Try.results84, go_sem]) rfl ⟨rfl, bl_alloc (bl_alloc (Below.refl _ _) _) _⟩
  · have e : renG to (k, (a' : Int), b, t) = (k, to.getD a' 0, b, t) := by rw [renG, if_neg hk]; rfl
    rw [e]
    clear e hc hb
    generalize to.getD a' 0 = x at *
    go_enter Try.func84, Try.ntmps84
    go_wp2_with (fail)
    exact bodyPost_ret (v := .agg #[.int .i64 k, .int .i64 x, .int .i64 b, .int .i64 t]) (by simp [results, Try.results84, go_sem]) rfl ⟨rfl, bl_alloc (bl_alloc (Below.refl _ _) _) _⟩

def renE (n : Int) (l : List G) (to : List Int) : Int := if validE n l = 0 then (if ordB n to then 0 else 1) else validE n l
def renL (n : Int) (l : List G) (to : List Int) : List G := if validE n l = 0 ∧ ordB n to = true then l.map (renG to) else []
/-- The row while k gates are renamed. -/
def rnTo (l : List G) (to : List Int) (k : Nat) : List G := (l.take k).map (renG to) ++ List.replicate (l.length - k) g0
theorem rnTo_len (l : List G) (to : List Int) {k : Nat} (h : k ≤ l.length) : (rnTo l to k).length = l.length := by simp [rnTo]; omega
theorem rnTo_all (l : List G) (to : List Int) : rnTo l to l.length = l.map (renG to) := by simp [rnTo]
theorem rnTo_zero (l : List G) (to : List Int) : rnTo l to 0 = List.replicate l.length g0 := by simp [rnTo]
theorem rnTo_succ {l : List G} (to : List Int) {k : Nat} (h : k < l.length) : rnTo l to (k + 1) = (rnTo l to k).set k (renG to (l.getD k g0)) := by
  have hl : ((l.take k).map (renG to)).length = k := by simp; omega
  obtain ⟨m, hm⟩ : ∃ m, l.length - k = m + 1 := ⟨l.length - k - 1, by omega⟩
  rw [rnTo, rnTo, List.take_succ_eq_append_getElem h, show l[k] = l.getD k g0 by simp [h], List.map_append, List.set_append_right _ _ (by omega), hl, Nat.sub_self, hm, List.replicate_succ, show l.length - (k + 1) = m by omega]
  simp
theorem cellsG_zeros : ∀ n, cellsG (List.replicate n g0) = List.replicate (n * 4) (.int .i64 0)
  | 0 => rfl
  | n + 1 => by
    rw [List.replicate_succ, show (n + 1) * 4 = n * 4 + 1 + 1 + 1 + 1 by omega, List.replicate_succ, List.replicate_succ, List.replicate_succ, List.replicate_succ, ← cellsG_zeros n]; rfl
theorem make_gates (n : Nat) (hn : n ≤ 100) (w : World) : ∃ cs, (Instr.makeSlice 29 (.int .i64 n) (.int .i64 n)).run Try.prog w = .ok (.slice (some ⟨w.heap.size, 0, none⟩) n n) (w.alloc (.cells cs 23)) ∧ (w.alloc (.cells cs 23)).ownsRow w.heap.size 23 4 (.slice (some ⟨w.heap.size, 0, none⟩) n n) n (cellsG (List.replicate n g0)) := by
  obtain ⟨i0, hi, hz0, hz1, hz2⟩ := info_parts gate_info
  have h := run_make (P := Try.prog) w 29 23 i0 _ Try.underlying29 hi hz0 .i64 .i64 (n : Int) (n : Int) (by omega) (by omega) (by rw [hz2]; omega) (by omega)
  simp only [Int.toNat_natCast] at h
  refine ⟨_, h, ?_⟩
  rw [hz1]
  have hc : (madeCells (Value.agg #[.int .i64 0, .int .i64 0, .int .i64 0, .int .i64 0]).cells (n * 4)).toList = cellsG (List.replicate n g0) := by
    rw [cellsG_zeros]
    apply List.ext_getElem
    · simp [size_madeCells]
    · intro i h1 h2
      have h4 : i % 4 < 4 := Nat.mod_lt _ (by omega)
      have hall : ∀ j, j < 4 → (Value.agg #[.int .i64 0, .int .i64 0, .int .i64 0, .int .i64 0]).cells[j]! = .int .i64 0 := by
        intro j hj
        have : j = 0 ∨ j = 1 ∨ j = 2 ∨ j = 3 := by omega
        rcases this with rfl | rfl | rfl | rfl <;> rfl
      simp [madeCells]
      exact hall _ h4
  have hs : (madeCells (Value.agg #[.int .i64 0, .int .i64 0, .int .i64 0, .int .i64 0]).cells (n * 4)).size = n * 4 := size_madeCells _ _
  refine ⟨by rw [cellsG_zeros]; simp, .inr ⟨w.heap.size, n, _, rfl, Nat.le_refl _, heap_alloc_new w _, Nat.le_refl _, by unfold maxLen; omega, hs, ?_⟩⟩
  rw [hc, List.take_of_length_le (by rw [cellsG_zeros]; simp)]

set_option maxRecDepth 100000 in
set_option maxHeartbeats 2000000 in
theorem Rename_c (n : Int) (A B : Option Addr) (l : List G) (to : List Int) (c d : Nat) (w : World) (hlen : l.length ≤ 1000) (hlt : to.length ≤ 1000) (hr : Rd w A (cellsG l)) (hs : Rd w B (ints to)) :
    Calls Try.prog 53 #[.int .i64 n, .slice A l.length c, .slice B to.length d] w (OutG (renL n l to) (renE n l to) w) := by
  have HV := Lib.hid (validate_c n A l c w hlen hr)
  by_cases hv : validE n l = 0
  · obtain ⟨h10, _, _⟩ := gatesE_ang hv
    have HI := fun w1 h1 => Lib.hid (isRenaming_c n B to d w1 hlt h1)
    have HGT := Lib.hid (validE_gates hv)
    by_cases ho : ordB n to = true
    · have HB : renL n l to = l.map (renG to) := by rw [renL, if_pos ⟨hv, ho⟩]
      have HE : renE n l to = 0 := by rw [renE, if_pos hv, if_pos ho]
      have hll := ord_len ho
      rw [hv] at HV
      rw [ho] at HI
      rw [HB, HE]
      clear HB HE
      have HML : Hid ((l.map (renG to)).length = l.length) := by show _ = _; simp
      have HR0 := Lib.hid (rnTo_zero l to)
      have HR1 := Lib.hid (rnTo_all l to)
      have HRs := fun k h => Lib.hid (@rnTo_succ l to k h)
      have HRl := fun k h => Lib.hid (@rnTo_len l to k h)
      go_enter Try.func53, Try.ntmps53
      go_wp2_with (fail)
      refine HV.out.mono ?_
      rintro e w1 ⟨rfl, hb1⟩
      go_wp2_with (fail)
      refine (HI _ (hs.later hb1)).out.mono ?_
      rintro e w2 ⟨rfl, hb2⟩
      have hb12 := bl_call hb1 hb2
      obtain ⟨cs, hmk, hown0⟩ := make_gates l.length (by omega) w2
      have hbl : Below w2.heap.size w2 (w2.alloc (.cells cs 23)) := bl_alloc (Below.refl _ _) _
      go_wp2_with (fail)
      go_loopg [27] l.length (fun gk kv wr => ∃ k : Nat, Hid (k + gk = l.length) ∧ kv = .int .i64 (k : Int) ∧ wr.ownsRow w2.heap.size 23 4 (.slice (some ⟨w2.heap.size, 0, none⟩) l.length l.length) l.length (cellsG (rnTo l to k)) ∧ Below w2.heap.size w2 wr)
      case atStart => exact ⟨0, by simp [Hid], rfl, by rw [HR0.out]; exact hown0, hbl⟩
      case round =>
        obtain ⟨k, HK, rfl, hown, hb⟩ := hrel
        clear hmk hown0 hbl
        rcases gk with _ | gi
        · obtain rfl : k = l.length := by have h := HK.out; omega
          rw [HR1.out] at hown
          go_wp2_with (fail)
          go_ret2
          exact ⟨_, _, by rw [HML.out]; rfl, by rw [HML.out]; exact own_base hown hb12.size, bl_call hb12 hb⟩
        · have hkl : k < l.length := by have h := HK.out; omega
          have hkl' : (k : Int) < (l.length : Int) := by omega
          have hrk := hr.later (bl_call hb12 hb)
          have hsk := hs.later (bl_call hb12 hb)
          obtain ⟨b, o, rfl, hbl, c0, c1, c2, c3⟩ := hrk.gate hkl
          have hgk := gate_kinds (HGT.out _ (List.getElem_mem hkl))
          have HX := Lib.hid (HRs k hkl).out
          have hxe : l[k] = l.getD k g0 := by simp [hkl]
          rw [hxe] at hgk
          have HGK := Lib.hid hgk.1
          clear hgk hxe
          generalize l.getD k g0 = x at *
          obtain ⟨xk, xa, xb, xt⟩ := x
          simp only [] at c0 c1 c2 c3 HGK
          have HRN := fun w3 h3 => Lib.hid (renamed_c xk xa xb xt B to d w3 hlt h3 (by have h := HGK.out; omega) (by have h := HGK.out; omega))
          generalize renG to (xk, xa, xb, xt) = y at *
          obtain ⟨yk, ya, yb, yt⟩ := y
          simp only [] at HRN
          have hal : Below wr.heap.size wr (wr.alloc (.cells #[.int .i64 xk, .int .i64 xa, .int .i64 xb, .int .i64 xt] 23)) := bl_alloc (Below.refl _ _) _
          go_wp2_with (fail)
          refine (HRN _ (hsk.later hal)).out.mono ?_
          rintro e w3 ⟨rfl, hb3⟩
          have hbA := bl_call hal hb3
          have hown3 := own_call hown hbA
          have hb23 := bl_call hb hbA
          obtain ⟨gg, hgg, hgb, hgl, hfr, hcell⟩ := own_cell hown3 (by omega)
          obtain rfl : w2.heap.size = gg := by injection hgg with h; injection h
          obtain ⟨r0, r1, r2, r3⟩ := cellsG_get (rnTo l to k) k (by rw [(HRl k (by omega)).out]; omega)
          have r0 := hcell _ _ r0
          have r1 := hcell _ _ r1
          have r2 := hcell _ _ r2
          have r3 := hcell _ _ r3
          have f0 := hfr (k * 4)
          have f1 := hfr (k * 4 + 1)
          have f2 := hfr (k * 4 + 2)
          have f3 := hfr (k * 4 + 3)
          have hO1 := own_set (own_set (own_set (own_set hown3 (p := k * 4) (.int .i64 yk)) (p := k * 4 + 1) (.int .i64 ya)) (p := k * 4 + 2) (.int .i64 yb)) (p := k * 4 + 3) (.int .i64 yt)
          rw [cellsG_set4 (rnTo l to k) k (yk, ya, yb, yt) (by rw [(HRl k (by omega)).out]; omega), ← HX.out] at hO1
          have hbE := (((hb23.setCell (p := ⟨w2.heap.size, k * 4, none⟩) hgb (.int .i64 yk)).setCell (p := ⟨w2.heap.size, k * 4 + 1, none⟩) hgb (.int .i64 ya)).setCell (p := ⟨w2.heap.size, k * 4 + 2, none⟩) hgb (.int .i64 yb)).setCell (p := ⟨w2.heap.size, k * 4 + 3, none⟩) hgb (.int .i64 yt)
          clear hfr hcell hgg HRN HRs HRl hown hown3 HX
          go_wp2_with (fail)
          go_roundg gi
          case rel => exact ⟨k + 1, by have h := HK.out; show _ = _; omega, by go_num, hO1, hbE⟩
          case measure => omega
    · have hof : ordB n to = false := by simpa using ho
      have HB : renL n l to = [] := by rw [renL, if_neg (fun h => ho h.2)]
      have HE : renE n l to = 1 := by rw [renE, if_pos hv, if_neg ho]
      rw [hv] at HV
      rw [hof] at HI
      rw [HB, HE]
      clear HB HE
      go_enter Try.func53, Try.ntmps53
      go_wp2_with (fail)
      refine HV.out.mono ?_
      rintro e w1 ⟨rfl, hb1⟩
      go_wp2_with (fail)
      refine (HI _ (hs.later hb1)).out.mono ?_
      rintro e w2 ⟨rfl, hb2⟩
      go_wp2_with (fail)
      go_ret2
      exact ⟨none, 0, rfl, World.ownsRow_nil _ _ _ _, bl_call hb1 hb2⟩
  · have HB : renL n l to = [] := by rw [renL, if_neg (fun h => hv h.1)]
    have HE : renE n l to = validE n l := by rw [renE, if_neg hv]
    rw [HB, HE]
    clear HB HE
    generalize validE n l = ev at hv HV
    go_enter Try.func53, Try.ntmps53
    go_wp2_with (fail)
    refine HV.out.mono ?_
    rintro e w1 ⟨rfl, hb1⟩
    go_wp2_with (fail)
    go_ret2
    exact ⟨none, 0, rfl, World.ownsRow_nil _ _ _ _, hb1⟩
end Go.Proofs.Yteoajadcdjaalaa
