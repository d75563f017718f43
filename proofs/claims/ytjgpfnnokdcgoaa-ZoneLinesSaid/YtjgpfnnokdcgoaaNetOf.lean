/- The net of a trap: package zone's netOf. -/
import Derived.Test.YtjgpfnnokdcgoaaNet
import Derived.Test.YtjgpfnnokdcgoaaNear
import Derived.Deep.CutRange
namespace Go.Proofs.Ytjgpfnnokdcgoaa
open Go.RowKit Go.Maps

theorem bl_base {B : Nat} {a b c : World} (h : Below B a b) (k : Below b.heap.size b c) (hB : B ≤ b.heap.size) : Below B a c := h.trans (k.mono hB)

def nilV : List Value := [.slice none 0 0, .slice none 0 0, .slice none 0 0, .slice none 0 0, .slice none 0 0, .slice none 0 0]
theorem tab_nil (w : World) (base : Nat) (l : List (Int × Int)) : TabI w base nilV (rowsTo l 0) := by
  refine ⟨rfl, fun k hk => ?_, fun j k u v _ hj _ b hu => ?_⟩
  · have h6 : k < 6 := by rw [rowsTo_len] at hk; exact hk
    rw [rowsTo_get l 0 h6]
    refine ⟨none, 0, ?_, World.ownsRow_nil _ _ _ _⟩
    match k, h6 with
    | 0, _ => rfl
    | 1, _ => rfl
    | 2, _ => rfl
    | 3, _ => rfl
    | 4, _ => rfl
    | 5, _ => rfl
    | k + 6, h => omega
  · have : u = .slice none 0 0 := by
      have := List.mem_of_getElem? hj
      simpa [nilV] using this
    rw [this] at hu; cases hu

/-- A net with the near zones of each zone. -/
def NetG (Z : Nat) (l : List (Int × Int)) (w : World) (e : Ending) (w' : World) : Prop :=
  ∃ h0 h1 h2 h3 h4 h5, e = .returned (.agg #[.int .i64 Z, h0, h1, h2, h3, h4, h5]) ∧ TabI w' w.heap.size [h0, h1, h2, h3, h4, h5] ((List.range 6).map fun z : Nat => nearL l (z : Int) Z) ∧ Below w.heap.size w w'
theorem idx6_0 (a b c d e f : Value) (w : World) : (Instr.index 76 (.agg #[a, b, c, d, e, f]) (.int .i64 0)).run Try.prog w = .ok a w := by kernel_rfl
theorem idx6_1 (a b c d e f : Value) (w : World) : (Instr.index 76 (.agg #[a, b, c, d, e, f]) (.int .i64 1)).run Try.prog w = .ok b w := by kernel_rfl
theorem idx6_2 (a b c d e f : Value) (w : World) : (Instr.index 76 (.agg #[a, b, c, d, e, f]) (.int .i64 2)).run Try.prog w = .ok c w := by kernel_rfl
theorem idx6_3 (a b c d e f : Value) (w : World) : (Instr.index 76 (.agg #[a, b, c, d, e, f]) (.int .i64 3)).run Try.prog w = .ok d w := by kernel_rfl
theorem idx6_4 (a b c d e f : Value) (w : World) : (Instr.index 76 (.agg #[a, b, c, d, e, f]) (.int .i64 4)).run Try.prog w = .ok e w := by kernel_rfl
theorem idx6_5 (a b c d e f : Value) (w : World) : (Instr.index 76 (.agg #[a, b, c, d, e, f]) (.int .i64 5)).run Try.prog w = .ok f w := by kernel_rfl
theorem idx_all (a b c d e f : Value) (w : World) : Hid ((Instr.index 76 (.agg #[a, b, c, d, e, f]) (.int .i64 0)).run Try.prog w = .ok a w ∧ (Instr.index 76 (.agg #[a, b, c, d, e, f]) (.int .i64 1)).run Try.prog w = .ok b w ∧ (Instr.index 76 (.agg #[a, b, c, d, e, f]) (.int .i64 2)).run Try.prog w = .ok c w ∧
    (Instr.index 76 (.agg #[a, b, c, d, e, f]) (.int .i64 3)).run Try.prog w = .ok d w ∧ (Instr.index 76 (.agg #[a, b, c, d, e, f]) (.int .i64 4)).run Try.prog w = .ok e w ∧ (Instr.index 76 (.agg #[a, b, c, d, e, f]) (.int .i64 5)).run Try.prog w = .ok f w) := ⟨idx6_0 _ _ _ _ _ _ _, idx6_1 _ _ _ _ _ _ _, idx6_2 _ _ _ _ _ _ _, idx6_3 _ _ _ _ _ _ _, idx6_4 _ _ _ _ _ _ _, idx6_5 _ _ _ _ _ _ _⟩
theorem Bx.grown_row {w w' : World} {g base e size n : Nat} {T : TypeId} {cs : Array Value} {v : Value} {xs : List Value} (h : Bx w g T cs) (hg : w.grownBy w' v.ownBlock) (ho : w.ownsRow base e size v n xs) (hb : g < base) : Bx w' g T cs :=
  (hg.block g h.lt (fun e => by have := (ho.lt g e.symm).1; omega)).trans h
theorem TabI.form {w : World} {base k : Nat} {hs : List Value} {ls : List (List Int)} (h : TabI w base hs ls) (hk : k < ls.length) {v : Value} (hv : hs[k]? = some v) : ∃ A n c, v = .slice A n c := by
  obtain ⟨A, c, h1, _⟩ := h.2.1 k hk
  rw [hv] at h1
  injection h1 with h1
  exact ⟨A, _, c, h1⟩
theorem six {α : Type} {l : List α} (h : l.length = 6) : ∃ a b c d e f, l = [a, b, c, d, e, f] := by
  match l, h with
  | [a, b, c, d, e, f], _ => exact ⟨a, b, c, d, e, f, rfl⟩

set_option maxRecDepth 100000 in
set_option maxHeartbeats 8000000 in
theorem netOf_c (Z : Nat) (A : Option Addr) (l : List (Int × Int)) (c : Nat) (w : World) (hv : trapE Z l = 0) (hlen : l.length ≤ 90) (hr : Rd w A (cellsP l)) :
    Calls Try.prog 61 #[trapV Z A l.length c] w (NetG Z l w) := by
  obtain ⟨⟨hz1, hz2⟩, hl, hnd⟩ := trapE_zero hv
  have HB0 : Hid (Below w.heap.size w (((w.alloc (.cells #[.int .i64 Z, .slice A l.length c] 24)).alloc (.cells (.int .i64 0 :: nilV).toArray 78)).alloc (.cells (.int .i64 Z :: nilV).toArray 78))) := bl_alloc (bl_alloc (bl_alloc (Below.refl _ _) _) _) _
  have x0 : Bx (((w.alloc (.cells #[.int .i64 Z, .slice A l.length c] 24)).alloc (.cells (.int .i64 0 :: nilV).toArray 78)).alloc (.cells (.int .i64 Z :: nilV).toArray 78)) w.heap.size 24 #[.int .i64 Z, .slice A l.length c] := ((Bx.new w _ _).alloc _).alloc _
  have x1 : Bx (((w.alloc (.cells #[.int .i64 Z, .slice A l.length c] 24)).alloc (.cells (.int .i64 0 :: nilV).toArray 78)).alloc (.cells (.int .i64 Z :: nilV).toArray 78)) (w.heap.size + 1) 78 (.int .i64 0 :: nilV).toArray := (Bx.newAt (by simp)).alloc _
  have x2 : Bx (((w.alloc (.cells #[.int .i64 Z, .slice A l.length c] 24)).alloc (.cells (.int .i64 0 :: nilV).toArray 78)).alloc (.cells (.int .i64 Z :: nilV).toArray 78)) (w.heap.size + 1 + 1) 78 (.int .i64 Z :: nilV).toArray := Bx.newAt (by simp)
  have ht0 := tab_nil (((w.alloc (.cells #[.int .i64 Z, .slice A l.length c] 24)).alloc (.cells (.int .i64 0 :: nilV).toArray 78)).alloc (.cells (.int .i64 Z :: nilV).toArray 78)) (w.heap.size + 3) l
  have hs0 : w.heap.size + 3 ≤ (((w.alloc (.cells #[.int .i64 Z, .slice A l.length c] 24)).alloc (.cells (.int .i64 0 :: nilV).toArray 78)).alloc (.cells (.int .i64 Z :: nilV).toArray 78)).heap.size := by simp
  have hbx := bl_alloc (Below.refl w.heap.size w) (.cells #[.int .i64 Z, .slice A l.length c] 24)
  go_enter Try.func61, Try.ntmps61
  go_wp2_with (fail)
  go_loopg [14] l.length (fun gk iv wr => ∃ (k : Nat) (hs : List Value), Hid (k + gk = l.length) ∧ iv = .int .i64 (k : Int) ∧ Bx wr w.heap.size 24 #[.int .i64 Z, .slice A l.length c] ∧ Bx wr (w.heap.size + 1) 78 (.int .i64 0 :: nilV).toArray ∧ Bx wr (w.heap.size + 1 + 1) 78 (.int .i64 Z :: hs).toArray ∧ TabI wr (w.heap.size + 3) hs (rowsTo l k) ∧ w.heap.size + 3 ≤ wr.heap.size ∧ Below w.heap.size w wr)
  case atStart => exact ⟨0, nilV, by simp [Hid], rfl, x0, x1, x2, ht0, hs0, HB0.out⟩
  case round =>
    obtain ⟨k, hs, HK, rfl, y0, y1, y2, htb, hsz, hb⟩ := hrel
    clear x0 x1 x2 ht0 hs0 HB0
    rcases gk with _ | gi
    · obtain rfl : k = l.length := HK.out
      have hT6 := rowsTo_len l l.length
      have hTl : ∀ k, k < 6 → ((rowsTo l l.length).getD k []).length ≤ 1000 := fun k hk => by rw [rowsTo_get l _ hk]; rw [List.take_length]; have := nbS_len l k; omega
      have HTA : Hid (sortTo (rowsTo l l.length) 6 = (List.range 6).map fun z : Nat => nearL l (z : Int) Z) := by
        show _ = _
        have h := sortTo_all (rowsTo l l.length)
        rw [hT6] at h
        rw [h, rowsTo, List.map_map]
        refine List.map_congr_left fun z _ => ?_
        simp only [Function.comp, List.take_length]
        exact near_sort hv z
      obtain ⟨h0, h1, h2, h3, h4, h5, rfl⟩ := six (htb.1.trans hT6)
      obtain ⟨A0, n0, c0, rfl⟩ := htb.form (k := 0) (by omega) rfl
      obtain ⟨A1, n1, c1, rfl⟩ := htb.form (k := 1) (by omega) rfl
      obtain ⟨A2, n2, c2, rfl⟩ := htb.form (k := 2) (by omega) rfl
      obtain ⟨A3, n3, c3, rfl⟩ := htb.form (k := 3) (by omega) rfl
      obtain ⟨A4, n4, c4, rfl⟩ := htb.form (k := 4) (by omega) rfl
      obtain ⟨A5, n5, c5, rfl⟩ := htb.form (k := 5) (by omega) rfl
      have ht0 : TabI wr (w.heap.size + 3) [.slice A0 n0 c0, .slice A1 n1 c1, .slice A2 n2 c2, .slice A3 n3 c3, .slice A4 n4 c4, .slice A5 n5 c5] (sortTo (rowsTo l l.length) 0) := by rw [sortTo_zero]; exact htb
      have HS := fun k (h : k < 6) => Lib.hid (sortTo_succ (rowsTo l l.length) (k := k) (by omega))
      have HA := fun k (h : k < 6) => Lib.hid (sortTo_at (rowsTo l l.length) (k := k) (by omega))
      have HLn := Lib.hid hTl
      have HTL := fun k => Lib.hid ((sortTo_len (rowsTo l l.length) k).trans hT6)
      clear hT6 hTl htb
      generalize rowsTo l l.length = T at *
      obtain ⟨wo, rfl⟩ : ∃ wo, wo = wr := ⟨_, rfl⟩
      have e0 := y2.cell 0
      have e1 := y2.cell 1
      have e2 := y2.cell 2
      have e3 := y2.cell 3
      have e4 := y2.cell 4
      have e5 := y2.cell 5
      have e6 := y2.cell 6
      simp at e0 e1 e2 e3 e4 e5 e6
      go_wp2_with (fail)
      clear e0 e1 e2 e3 e4 e5 e6
      go_loopg [47] 6 (fun gk iv wr => ∃ k : Nat, Hid (k + gk = 6) ∧ iv = .int .i64 (k : Int) ∧ Bx wr (w.heap.size + 1) 78 (.int .i64 0 :: nilV).toArray ∧ Bx wr (w.heap.size + 1 + 1) 78 (.int .i64 Z :: [.slice A0 n0 c0, .slice A1 n1 c1, .slice A2 n2 c2, .slice A3 n3 c3, .slice A4 n4 c4, .slice A5 n5 c5]).toArray ∧ TabI wr (w.heap.size + 3) [.slice A0 n0 c0, .slice A1 n1 c1, .slice A2 n2 c2, .slice A3 n3 c3, .slice A4 n4 c4, .slice A5 n5 c5] (sortTo T k) ∧ w.heap.size + 3 ≤ wr.heap.size ∧ Below w.heap.size w wr)
      case atStart => exact ⟨0, by simp [Hid], rfl, y1, y2, ht0, hsz, hb⟩
      case round =>
        obtain ⟨k, HK, rfl, y1, y2, htb, hsz, hb⟩ := hrel
        rcases gk with _ | gi
        · obtain rfl : k = 6 := HK.out
          have e0 := y2.cell 0
          have e1 := y2.cell 1
          have e2 := y2.cell 2
          have e3 := y2.cell 3
          have e4 := y2.cell 4
          have e5 := y2.cell 5
          have e6 := y2.cell 6
          have r0 := y1.cell 0
          have r1 := y1.cell 1
          have r2 := y1.cell 2
          have r3 := y1.cell 3
          have r4 := y1.cell 4
          have r5 := y1.cell 5
          have r6 := y1.cell 6
          have f0 := y1.free 0
          have f1 := y1.free 1
          have f2 := y1.free 2
          have f3 := y1.free 3
          have f4 := y1.free 4
          have f5 := y1.free 5
          have f6 := y1.free 6
          simp [nilV] at e0 e1 e2 e3 e4 e5 e6 r0 r1 r2 r3 r4 r5 r6
          have yF : Bx (((((((wr.setCell ⟨w.heap.size + 1, 0, none⟩ (.int .i64 Z)).setCell ⟨w.heap.size + 1, 1, none⟩ (.slice A0 n0 c0)).setCell ⟨w.heap.size + 1, 2, none⟩ (.slice A1 n1 c1)).setCell ⟨w.heap.size + 1, 3, none⟩ (.slice A2 n2 c2)).setCell ⟨w.heap.size + 1, 4, none⟩ (.slice A3 n3 c3)).setCell ⟨w.heap.size + 1, 5, none⟩ (.slice A4 n4 c4)).setCell ⟨w.heap.size + 1, 6, none⟩ (.slice A5 n5 c5)) (w.heap.size + 1) 78 #[.int .i64 Z, .slice A0 n0 c0, .slice A1 n1 c1, .slice A2 n2 c2, .slice A3 n3 c3, .slice A4 n4 c4, .slice A5 n5 c5] :=
            ((((((y1.set 0 (.int .i64 Z)).set 1 (.slice A0 n0 c0)).set 2 (.slice A1 n1 c1)).set 3 (.slice A2 n2 c2)).set 4 (.slice A3 n3 c3)).set 5 (.slice A4 n4 c4)).set 6 (.slice A5 n5 c5)
          have hg' : w.heap.size + 1 < w.heap.size + 3 := by omega
          rw [HTA.out] at htb
          have tF := ((((((((htb.far (p := 0) hg' (.int .i64 Z)).far (p := 1) hg' (.slice A0 n0 c0)).far (p := 2) hg' (.slice A1 n1 c1)).far (p := 3) hg' (.slice A2 n2 c2)).far (p := 4) hg' (.slice A3 n3 c3)).far (p := 5) hg' (.slice A4 n4 c4)).far (p := 6) hg' (.slice A5 n5 c5))).lower (base' := w.heap.size) (by omega)
          have hg2 : w.heap.size ≤ w.heap.size + 1 := by omega
          have bF := bl_set (bl_set (bl_set (bl_set (bl_set (bl_set (bl_set hb hg2 (.int .i64 Z) (i := 0)) hg2 (.slice A0 n0 c0) (i := 1)) hg2 (.slice A1 n1 c1) (i := 2)) hg2 (.slice A2 n2 c2) (i := 3)) hg2 (.slice A3 n3 c3) (i := 4)) hg2 (.slice A4 n4 c4) (i := 5)) hg2 (.slice A5 n5 c5) (i := 6)
          clear hg' hg2
          go_wp2_with (fail)
          refine bodyPost_ret (results_cell_row rfl _ _ (w.heap.size + 1) 78 _ (0, 0) _ rfl yF Try.underlying78 rfl (by kernel_rfl)) rfl ?_
          exact ⟨_, _, _, _, _, _, rfl, tF, bF⟩
        · have hk6 : k < 6 := by have h := HK.out; omega
          have hk6' : (k : Int) < 6 := by omega
          obtain ⟨B, d, hh, ho⟩ := htb.2.1 k (by rw [(HTL k).out]; exact hk6)
          have hhs := hh
          rw [(HA k hk6).out] at hh ho hhs
          have HSC := Lib.hid (sort_c (w.heap.size + 3) d B (T.getD k []) wr (HLn.out k hk6) ho)
          have hSn := HS k hk6
          have HTLk := HTL k
          have HPUT := fun w2 (h1 : wr.grownBy w2 (Value.slice B (T.getD k []).length d).ownBlock) h2 => TabI.put (w' := w2) (v' := .slice B (T.getD k []).length d) (l' := sortI (T.getD k [])) htb (k := k) (by rw [HTLk.out]; exact hk6) hhs h1 h2 (.inl rfl)
          have HPT : Hid (∀ w2, wr.grownBy w2 (Value.slice B (T.getD k []).length d).ownBlock → w2.ownsRow (w.heap.size + 3) 3 1 (.slice B (T.getD k []).length d) (T.getD k []).length (ints (sortI (T.getD k []))) → TabI w2 (w.heap.size + 3) [.slice A0 n0 c0, .slice A1 n1 c1, .slice A2 n2 c2, .slice A3 n3 c3, .slice A4 n4 c4, .slice A5 n5 c5] (sortTo T (k + 1))) := fun w2 h1 h2 => by
            have h := HPUT w2 h1 (by rw [sortI_len]; exact h2)
            rw [hSn.out]
            have e : ([.slice A0 n0 c0, .slice A1 n1 c1, .slice A2 n2 c2, .slice A3 n3 c3, .slice A4 n4 c4, .slice A5 n5 c5] : List Value).set k (.slice B (T.getD k []).length d) = [.slice A0 n0 c0, .slice A1 n1 c1, .slice A2 n2 c2, .slice A3 n3 c3, .slice A4 n4 c4, .slice A5 n5 c5] := by
              apply List.ext_getElem?
              intro i
              rw [List.getElem?_set]
              split
              · rename_i e; subst e
                rw [if_pos (by simp; omega), hhs]
              · rfl
            rw [e] at h; exact h
          clear HPUT HTLk hSn htb HS HA HTL HLn hh HTA
          have hidx := idx_all (.slice A0 n0 c0) (.slice A1 n1 c1) (.slice A2 n2 c2) (.slice A3 n3 c3) (.slice A4 n4 c4) (.slice A5 n5 c5) wr
          generalize T.getD k [] = row at *
          rcases (by omega : k = 0 ∨ k = 1 ∨ k = 2 ∨ k = 3 ∨ k = 4 ∨ k = 5) with rfl | rfl | rfl | rfl | rfl | rfl
          all_goals
            injection hhs with hhs
            injection hhs with q1 q2 q3
            subst q1 q2 q3
            obtain ⟨i0, i1, i2, i3, i4, i5⟩ := hidx.out
            clear hidx
            go_wp2_with (fail)
            refine HSC.out.mono ?_
            rintro e w2 ⟨rfl, ho2, hg2⟩
            have hs2 : w.heap.size + 3 ≤ w2.heap.size := Nat.le_trans hsz hg2.size
            have ht2 := HPT.out w2 hg2 ho2
            have z1 := y1.grown_row hg2 ho (by omega)
            have z2 := y2.grown_row hg2 ho (by omega)
            have hb2 : Below w.heap.size w w2 := hb.grown hg2 hb.size (fun j hj => by have := (ho.lt j hj).1; omega)
            clear HSC HPT ho ho2 hg2
            go_wp2_with (fail)
            go_roundg gi
            case rel => exact ⟨_, by have h := HK.out; show _ + _ = _; omega, by go_num, z1, z2, ht2, hs2, hb2⟩
            case measure => omega
    · have hkl : k < l.length := by have h := HK.out; omega
      have hkl' : (k : Int) < (l.length : Int) := by omega
      obtain ⟨b, o, rfl, hbl, d0, d1⟩ := (hr.later hb).pair hkl
      have hx := hl (l.getD k (0, 0)) (by simp [hkl])
      obtain ⟨i, j, hij⟩ : ∃ i j : Nat, l.getD k (0, 0) = ((i : Int), (j : Int)) := ⟨(l.getD k (0, 0)).1.toNat, (l.getD k (0, 0)).2.toNat, Prod.ext (Int.toNat_of_nonneg (by omega)).symm (Int.toNat_of_nonneg (by omega)).symm⟩
      rw [hij] at d0 d1 hx
      simp only [] at d0 d1 hx
      have hi6 : i < 6 := by omega
      have hj6 : j < 6 := by omega
      have hne : i ≠ j := by omega
      have HST := Lib.hid (rowsTo_step hkl hi6 hj6 hne hij)
      have HRO := fun r => Lib.hid (rowsTo_other (l := l) (k := k) hne r)
      have HL1 : Hid (((rowsTo l k).getD i []).length ≤ 100) := by show _ ≤ _; rw [rowsTo_get l k hi6]; have := nbS_len (l.take k) i; simp at this; omega
      have HL2 : Hid (((rowsTo l k).getD j []).length ≤ 100) := by show _ ≤ _; rw [rowsTo_get l k hj6]; have := nbS_len (l.take k) j; simp at this; omega
      have h6 := rowsTo_len l k
      clear hij hx
      generalize rowsTo l k = T at *
      have q1 : (0 : Int) ≤ (i : Int) := by omega
      have q2 : (i : Int) < 6 := by omega
      have q3 : (0 : Int) ≤ (j : Int) := by omega
      have q4 : (j : Int) < 6 := by omega
      go_wp2_with (fail)
      obtain ⟨wa, hwa⟩ : ∃ wa, wa = wr.alloc (.cells #[.int .i64 i, .int .i64 j] 69) := ⟨_, rfl⟩
      rw [← hwa]
      have hba : Below wr.heap.size wr wa := by rw [hwa]; exact bl_alloc (Below.refl _ _) _
      have xa : Bx wa wr.heap.size 69 #[.int .i64 i, .int .i64 j] := by rw [hwa]; exact Bx.new _ _ _
      have hsa : w.heap.size + 3 ≤ wa.heap.size := by have := hba.size; omega
      have hlink : wr.heap.size < wa.heap.size := xa.lt
      obtain ⟨A1, n1, c1, A2, c2, W1, hn1, f1, f2, hrun1, fz1, f3, hbl1, z2, ht1, hk1, hs1⟩ := net_step i j (y2.call hba) (htb.call hba) h6 hi6 HL1.out hsa (by omega)
      have E1 := Lib.hid hrun1
      obtain ⟨l0, l1, _⟩ := xa.two
      obtain ⟨l2, l3, _⟩ := (hk1 _ _ _ (by decide) xa).two
      have HN1 := Lib.hid hn1
      clear hrun1 hn1 hwa
      go_cut [14] from 14 to 44 (fun s w' => s = .int .i64 (k : Int) ∧ w' = W1.setCell ⟨w.heap.size + 1 + 1, 1 + i, none⟩ (.slice A2 (n1 + 1) c2))
      case first =>
        go_region_law (refine step_append_run rfl (.tmp 24) (.tmp 27) 25 rfl (.slice A1 n1 c1) (.slice (some ⟨wa.heap.size, 0, none⟩) 1 1) (.slice A2 (n1 + 1) c2) W1 (by simp [Act.eval]) (by simp [Act.eval]) E1.out ?_)
        all_goals
          go_wp2_with (fail)
          go_meet
          exact ⟨rfl, rfl⟩
      obtain ⟨rfl, rfl⟩ := hcut
      have hbb : Below w.heap.size w (W1.setCell ⟨w.heap.size + 1 + 1, 1 + i, none⟩ (.slice A2 (n1 + 1) c2)) := bl_set ((bl_call hb hba).trans (hbl1.mono (by omega))) (by omega) _
      have v0 : Bx (W1.setCell ⟨w.heap.size + 1 + 1, 1 + i, none⟩ (.slice A2 (n1 + 1) c2)) w.heap.size 24 #[.int .i64 Z, .slice (some ⟨b, o, none⟩) l.length c] := Bx.far ((hbl1.block _ (by omega)).trans (y0.call hba)) (by omega) _
      have v1 : Bx (W1.setCell ⟨w.heap.size + 1 + 1, 1 + i, none⟩ (.slice A2 (n1 + 1) c2)) (w.heap.size + 1) 78 (.int .i64 0 :: nilV).toArray := Bx.far ((hbl1.block _ (by omega)).trans (y1.call hba)) (by omega) _
      have vl : Bx (W1.setCell ⟨w.heap.size + 1 + 1, 1 + i, none⟩ (.slice A2 (n1 + 1) c2)) wr.heap.size 69 #[.int .i64 i, .int .i64 j] := Bx.far (hk1 _ _ _ (by decide) xa) (by omega) _
      have hsb : w.heap.size + 3 ≤ (W1.setCell ⟨w.heap.size + 1 + 1, 1 + i, none⟩ (.slice A2 (n1 + 1) c2)).heap.size := Nat.le_trans (Nat.le_trans hsa hs1) (by simp)
      generalize W1.setCell ⟨w.heap.size + 1 + 1, 1 + i, none⟩ (.slice A2 (n1 + 1) c2) = wb at *
      have hlink2 := vl.lt
      have hln : ((T.set i (T.getD i [] ++ [(j : Int)])).getD j []).length ≤ 100 := by rw [(HRO _).out]; exact HL2.out
      obtain ⟨A3, n3, c3, A4, c4, W3, hn3, e1, e2, hrun3, fz3, e3, hbl3, u2, ht3, hk3, hs3⟩ := net_step j i z2 ht1 (by simpa using h6) hj6 hln hsb (by omega)
      rw [(HRO _).out] at ht3
      have E3 := Lib.hid hrun3
      obtain ⟨m0, m1, _⟩ := vl.two
      obtain ⟨m2, m3, _⟩ := (hk3 _ _ _ (by decide) vl).two
      have HN3 := Lib.hid hn3
      clear hrun3 hn3 f1 f2 f3 fz1 l0 l1 l2 l3 E1 hk1 hbl1 hs1 hln z2 ht1 hsa hlink hba xa
      have hbc : Below w.heap.size w (W3.setCell ⟨w.heap.size + 1 + 1, 1 + j, none⟩ (.slice A4 (n3 + 1) c4)) := bl_set (hbb.trans (hbl3.mono (by omega))) (by omega) _
      have k0 : Bx (W3.setCell ⟨w.heap.size + 1 + 1, 1 + j, none⟩ (.slice A4 (n3 + 1) c4)) w.heap.size 24 #[.int .i64 Z, .slice (some ⟨b, o, none⟩) l.length c] := Bx.far ((hbl3.block _ (by omega)).trans v0) (by omega) _
      have k1 : Bx (W3.setCell ⟨w.heap.size + 1 + 1, 1 + j, none⟩ (.slice A4 (n3 + 1) c4)) (w.heap.size + 1) 78 (.int .i64 0 :: nilV).toArray := Bx.far ((hbl3.block _ (by omega)).trans v1) (by omega) _
      have hsc : w.heap.size + 3 ≤ (W3.setCell ⟨w.heap.size + 1 + 1, 1 + j, none⟩ (.slice A4 (n3 + 1) c4)).heap.size := Nat.le_trans (Nat.le_trans hsb hs3) (by simp)
      rw [← HST.out] at ht3
      go_wp2_with (fail)
      go_region_law (refine step_append_run rfl (.tmp 37) (.tmp 40) 25 rfl (.slice A3 n3 c3) (.slice (some ⟨wb.heap.size, 0, none⟩) 1 1) (.slice A4 (n3 + 1) c4) W3 (by simp [Act.eval]) (by simp [Act.eval]) E3.out ?_)
      all_goals
        go_wp2_with (fail)
        go_roundg gi
        case rel => exact ⟨k + 1, _, by have h := HK.out; show _ = _; omega, by go_num, k0, k1, u2, ht3, hsc, hbc⟩
        case measure => omega
end Go.Proofs.Ytjgpfnnokdcgoaa
