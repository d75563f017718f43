/- The gate at a place is put in front of those that are left. -/
import Derived.Test.YteoajadcdjaalaaSmall
import Derived.BigRegion
namespace Go.Proofs.Yteoajadcdjaalaa
open Go.RowKit

theorem run_copy_gates {P : Program} (w : World) (dT sT ty e : TypeId) (i : TypeInfo) (hu : P.underlying dT = some (.slice e)) (hi : P.info? e = some i) (h4 : i.size = 4) (g o dLen dCap : Nat) (a : Addr) (sLen sCap : Nat) (cur : Array Value) (cs : List Value)
    (hg : w.heap[g]? = some (.cells cur e (0, 0))) (hn : cs.length = Nat.min sLen dLen * 4) (hsrc : ∀ j v, cs[j]? = some v → w.cell? (a.add j) = some v) (hfit : o + cs.length ≤ cur.size) (h1 : ∀ v ∈ cs, v.oneCell' = true) :
    (Builtin.copy_ #[dT, sT] ty #[.slice (some ⟨g, o, none⟩) dLen dCap, .slice (some a) sLen sCap]).run P w =
      .ok (goInt (Nat.min sLen dLen)) (w.setRow g (cur.toList.take o ++ cs ++ cur.toList.drop (o + cs.length)).toArray) := by
  have hl := run_firstCells_some (P := P) w i.size (Nat.min sLen dLen) a sLen sCap cs (by rw [h4]; exact hn) hsrc
  have hst := run_storeCells_at P g o e cs 0 cur w hg (by simpa using hfit) h1
  simp only [Nat.add_zero] at hst
  simp [Builtin.copy_, run_underlying hu, Builtin.lenOf, sizeOf, typeInfo, hi, hl, hst]

/-- The list behind the copy; behind the store. -/
def shiftL (l : List G) (nx p : Nat) : List G := l.take (nx + 1) ++ (l.drop nx).take (p - nx) ++ l.drop (p + 1)
def takeL (l : List G) (nx p : Nat) : List G := (shiftL l nx p).set nx (l.getD p g0)
theorem shiftL_len {l : List G} {nx p : Nat} (h1 : nx ≤ p) (h2 : p < l.length) : (shiftL l nx p).length = l.length := by
  simp [shiftL]; omega
theorem takeL_len {l : List G} {nx p : Nat} (h1 : nx ≤ p) (h2 : p < l.length) : (takeL l nx p).length = l.length := by
  rw [takeL, List.length_set, shiftL_len h1 h2]
theorem cellsG_set4 (l : List G) (j : Nat) (x : G) (hj : j < l.length) : ((((cellsG l).set (j * 4) (.int .i64 x.1)).set (j * 4 + 1) (.int .i64 x.2.1)).set (j * 4 + 2) (.int .i64 x.2.2.1)).set (j * 4 + 3) (.int .i64 x.2.2.2) = cellsG (l.set j x) := by
  induction l generalizing j with
  | nil => simp at hj
  | cons a t ih =>
    cases j with
    | zero => simp [cellsG]
    | succ j =>
      have h := ih j (by simpa using hj)
      rw [show (j + 1) * 4 = j * 4 + 4 by omega, show j * 4 + 4 + 1 = (j * 4 + 1) + 4 by omega, show j * 4 + 4 + 2 = (j * 4 + 2) + 4 by omega, show j * 4 + 4 + 3 = (j * 4 + 3) + 4 by omega]
      simp only [cellsG, List.flatMap_cons, List.set_cons_succ, List.cons_append, List.nil_append] at h ⊢
      rw [h]

/-- The row behind the copy. -/
theorem shift_row {cur : Array Value} {l : List G} {nx p o : Nat} (h1 : nx ≤ p) (h2 : p < l.length) (hpre : cur.toList.take (l.length * 4) = cellsG l) (ho : p = nx ∨ o = (nx + 1) * 4) :
    (cur.toList.take o ++ cellsG ((l.drop nx).take (p - nx)) ++ cur.toList.drop (o + (cellsG ((l.drop nx).take (p - nx))).length)).take (l.length * 4) = cellsG (shiftL l nx p) := by
  have hc : cur.toList = cellsG l ++ cur.toList.drop (l.length * 4) := by rw [← hpre, List.take_append_drop]
  have hlen : (cellsG (shiftL l nx p)).length = l.length * 4 := by rw [cellsG_length, shiftL_len h1 h2]
  rcases ho with rfl | rfl
  · have hs : shiftL l p p = l := by simp [shiftL]
    rw [hs]
    simp [cellsG, hpre] at *
  · have hl1 : (cellsG ((l.drop nx).take (p - nx))).length = (p - nx) * 4 := by rw [cellsG_length]; simp; omega
    rw [hl1, show (nx + 1) * 4 + (p - nx) * 4 = (p + 1) * 4 by omega]
    have e1 : cur.toList.take ((nx + 1) * 4) = cellsG (l.take (nx + 1)) := by
      rw [hc, List.take_append_of_le_length (by rw [cellsG_length]; omega), cellsG_take]
    have e2 : cur.toList.drop ((p + 1) * 4) = cellsG (l.drop (p + 1)) ++ cur.toList.drop (l.length * 4) := by
      conv => lhs; rw [hc]
      rw [List.drop_append_of_le_length (by rw [cellsG_length]; omega), cellsG_drop]
    rw [e1, e2, ← List.append_assoc, ← cellsG_append, ← cellsG_append]
    show List.take (l.length * 4) (cellsG (shiftL l nx p) ++ _) = _
    rw [← hlen, List.take_left']
    rfl

set_option maxRecDepth 100000 in
set_option maxHeartbeats 4000000 in
theorem take_c (base g : Nat) (A : Option Addr) (l : List G) (c nx p : Nat) (w : World) (hlen : l.length ≤ 100) (hnp : nx ≤ p) (hp : p < l.length) (hgb : base ≤ g) (hown : w.ownsRow base 23 4 (.slice A l.length c) l.length (cellsG l)) (hx : Bx w g 82 #[.slice A l.length c, .int .i64 nx]) :
    Calls Try.prog 89 #[.pointer (some ⟨g, 0, none⟩), .int .i64 p] w fun e w' => e = .returned (.tuple #[]) ∧ w'.ownsRow base 23 4 (.slice A l.length c) l.length (cellsG (takeL l nx p)) ∧ Bx w' g 82 #[.slice A l.length c, .int .i64 ((nx + 1 : Nat) : Int)] ∧ Below base w w' := by
  obtain ⟨i0, hinf, hz0, hz1, hz2⟩ := info_parts gate_info
  rcases hown.2 with ⟨h0, hn0⟩ | ⟨gb, cap, cur, hv, hbg, hheap, hle, hm, hsz, hpre⟩
  · omega
  injection hv with hA _ hc
  subst hA hc
  have hne : g ≠ gb := by rintro rfl; unfold Bx at hx; rw [hx] at hheap; injection hheap with h; injection h with _ h _; exact absurd h (by decide)
  obtain ⟨i1, i2, i3, i4⟩ := hx.two
  obtain ⟨gb', hgb', _, hgs, c0, c1, c2, c3, _⟩ := own_gate hown hp
  obtain rfl : gb = gb' := by injection hgb' with h; injection h
  have hX : ∃ x, x = l.getD p g0 := ⟨_, rfl⟩
  obtain ⟨x, hX⟩ := hX
  rw [← hX] at c0 c1 c2 c3
  have hT : Hid (takeL l nx p = (shiftL l nx p).set nx x) := by show _ = _; rw [takeL, hX]
  have hl2 : Hid ((shiftL l nx p).length = l.length) := shiftL_len hnp hp
  clear hX
  obtain ⟨xk, xa, xb, xt⟩ := x
  simp only [] at c0 c1 c2 c3
  obtain ⟨cs, hcs⟩ : ∃ cs, cs = cellsG ((l.drop nx).take (p - nx)) := ⟨_, rfl⟩
  have hcl : cs.length = (p - nx) * 4 := by rw [hcs, cellsG_length]; simp; omega
  obtain ⟨o, ho, hoo, hol⟩ : ∃ o, (if c = nx + 1 then some (⟨gb, 0, none⟩ : Addr) else some ⟨gb, (nx + 1) * 4, none⟩) = some ⟨gb, o, none⟩ ∧ (p = nx ∨ o = (nx + 1) * 4) ∧ o ≤ (nx + 1) * 4 := by
    by_cases h : c = nx + 1
    · exact ⟨0, by simp [h], .inl (by omega), by omega⟩
    · exact ⟨_, by rw [if_neg h], .inr rfl, Nat.le_refl _⟩
  obtain ⟨W1, hW1⟩ : ∃ W1, W1 = w.alloc (.cells #[.int .i64 xk, .int .i64 xa, .int .i64 xb, .int .i64 xt] 23) := ⟨_, rfl⟩
  obtain ⟨cur2, hcur2⟩ : ∃ cur2, cur2 = (cur.toList.take o ++ cs ++ cur.toList.drop (o + cs.length)).toArray := ⟨_, rfl⟩
  have hsz1 : cur.toList.length = c * 4 := by simpa using hsz
  have hcs2 : cur2.size = c * 4 := by rw [hcur2]; simp; omega
  have hp2 : cur2.toList.take (l.length * 4) = cellsG (shiftL l nx p) := by rw [hcur2, hcs]; exact shift_row hnp hp hpre hoo
  have hba : Below w.heap.size w W1 := by rw [hW1]; exact bl_alloc (Below.refl _ _) _
  have hh1 : W1.heap[gb]? = some (.cells cur 23 (0, 0)) := (hba.block gb hgs).trans hheap
  have hcp : ∀ ty, (Builtin.copy_ #[69, 69] ty #[.slice (some ⟨gb, o, none⟩) (p - nx) (c - (nx + 1)), .slice (some ⟨gb, nx * 4, none⟩) (p - nx) (c - nx)]).run Try.prog W1.drew = .ok (goInt ((p - nx : Nat) : Int)) (W1.drew.setRow gb cur2) := fun ty => by
    rw [hcur2]
    have hmin : Nat.min (p - nx) (p - nx) = p - nx := Nat.min_self _
    have := run_copy_gates (P := Try.prog) W1.drew 69 69 ty 23 i0 Try.underlying69 hinf hz1 gb o (p - nx) (c - (nx + 1)) ⟨gb, nx * 4, none⟩ (p - nx) (c - nx) cur cs hh1 (by rw [hcl, hmin]) (fun j u hu => ?_) (by omega) (by rw [hcs]; exact cellsG_one _)
    · rw [hmin] at this; exact this
    · rw [hcs, ← cellsG_take, ← cellsG_drop, List.getElem?_take] at hu
      split at hu
      · rw [List.getElem?_drop] at hu
        have h1 := hown.cells (g := gb) rfl _ u hu
        have e1 : ∀ k, (⟨gb, 0, none⟩ : Addr).add k = ⟨gb, k, none⟩ := fun k => by unfold Addr.add; split <;> simp_all
        have e2 : (⟨gb, nx * 4, none⟩ : Addr).add j = ⟨gb, nx * 4 + j, none⟩ := by unfold Addr.add; split <;> simp_all
        rw [e1] at h1
        rw [e2]
        exact (hba.cell (p := ⟨gb, nx * 4 + j, none⟩) hgs).trans h1
      · cases hu
  have hx1 := hx.call hba
  have hB2 : Hid (Bx (W1.drew.setRow gb cur2) g 82 #[.slice (some ⟨gb, 0, none⟩) l.length c, .int .i64 nx]) := by
    show W1.drew.setRow gb cur2 |>.heap[g]? = _
    rw [setRow_other _ _ _ _ hne]
    exact hx1
  have hh2 : (W1.drew.setRow gb cur2).heap[gb]? = some (.cells cur2 23 (0, 0)) := setRow_heap W1.drew gb cur cur2 _ _ hh1
  have hO2 : Hid ((W1.drew.setRow gb cur2).ownsRow base 23 4 (.slice (some ⟨gb, 0, none⟩) l.length c) l.length (cellsG (shiftL l nx p))) := by
    refine ⟨by rw [cellsG_length, shiftL_len hnp hp], .inr ⟨gb, c, cur2, rfl, hbg, hh2, hle, hm, hcs2, hp2⟩⟩
  have hF2 : Hid (∀ k, (W1.drew.setRow gb cur2).frozen? ⟨gb, k, none⟩ = false) := fun k => by simp [World.frozen?, hh2]
  have hXB : Bx W1 w.heap.size 23 #[.int .i64 xk, .int .i64 xa, .int .i64 xb, .int .i64 xt] := by rw [hW1]; exact Bx.new w _ _
  have hY2 : Hid (Bx (W1.drew.setRow gb cur2) w.heap.size 23 #[.int .i64 xk, .int .i64 xa, .int .i64 xb, .int .i64 xt]) := by
    show W1.drew.setRow gb cur2 |>.heap[w.heap.size]? = _
    rw [setRow_other _ _ _ _ (by omega)]
    exact hXB
  have hD2 : Hid (Below base w (W1.drew.setRow gb cur2)) := by
    have hb1 : Below base w W1.drew := (hba.mono (by omega)).drew
    refine hb1.grown (row := some gb) ⟨rfl, rfl, rfl, by simp, fun k hk hne => setRow_other _ _ _ _ (fun e => hne (by rw [e]))⟩ (Nat.le_trans (by omega) hb1.size) (fun k e => by cases e; exact hbg)
  clear hXB hh2
  obtain ⟨j1, j2, j3, j4⟩ := hx1.two
  have hza : (0 : Int) ≤ (nx : Int) + 1 := by omega
  have hzb : (nx : Int) + 1 ≤ (p : Int) + 1 := by omega
  have hzc : (p : Int) + 1 ≤ (c : Int) := by omega
  have hzd : p + 1 ≤ c := by omega
  have hze : p ≤ c := by omega
  have hzf : ¬ c = nx := by omega
  have hzg : (p : Int) ≤ (c : Int) := by omega
  clear hcur2 hcs hcl hh1
  go_enter Try.func89, Try.ntmps89
  go_wp2_with (fail)
  rw [← hW1]
  clear hW1 i1 i2 i3 i4 c0 c1 c2 c3 hx1
  go_region
  clear j1 j2 j3 j4 hcp
  generalize W1.drew.setRow gb cur2 = W2 at *
  obtain ⟨k0, k1, k2, k3, _, _, _, _⟩ := hY2.out.four
  obtain ⟨s0, s1, s2, s3⟩ := hB2.out.two
  have hO3 := hO2.out
  rw [← hl2.out] at hO3
  obtain ⟨gb', hgb', _, _, e0, e1, e2, e3, _⟩ := own_gate (j := nx) hO3 (by rw [hl2.out]; omega)
  obtain rfl : gb = gb' := by injection hgb' with h; injection h
  clear hO3
  have f0 := hF2.out (nx * 4)
  have f1 := hF2.out (nx * 4 + 1)
  have f2 := hF2.out (nx * 4 + 2)
  have f3 := hF2.out (nx * 4 + 3)
  have hnl : (nx : Int) < (l.length : Int) := by omega
  have hnl0 : (0 : Int) ≤ (nx : Int) := by omega
  have hnl1 : nx < l.length := by omega
  go_wp2_with (fail)
  go_region
  go_wp2_with (fail)
  have hO4 := own_set (own_set (own_set (own_set hO2.out (p := nx * 4) (.int .i64 xk)) (p := nx * 4 + 1) (.int .i64 xa)) (p := nx * 4 + 2) (.int .i64 xb)) (p := nx * 4 + 3) (.int .i64 xt)
  rw [cellsG_set4 (shiftL l nx p) nx (xk, xa, xb, xt) (by rw [hl2.out]; exact hnl1), ← hT.out] at hO4
  have hO5 := ownsRow_setCell_other hO4 (a := ⟨g, 1, none⟩) (by intro e; cases e; exact hne rfl) (.int .i64 ((nx : Int) + 1))
  have hB5 : Bx (((((W2.setCell ⟨gb, nx * 4, none⟩ (.int .i64 xk)).setCell ⟨gb, nx * 4 + 1, none⟩ (.int .i64 xa)).setCell ⟨gb, nx * 4 + 2, none⟩ (.int .i64 xb)).setCell ⟨gb, nx * 4 + 3, none⟩ (.int .i64 xt)).setCell ⟨g, 1, none⟩ (.int .i64 ((nx : Int) + 1))) g 82 #[.slice (some ⟨gb, 0, none⟩) l.length c, .int .i64 ((nx + 1 : Nat) : Int)] := by
    rw [show ((nx + 1 : Nat) : Int) = (nx : Int) + 1 by omega]
    exact ((((hB2.out.far hne _).far hne _).far hne _).far hne _).set 1 _
  have hD5 := ((((hD2.out.setCell (p := ⟨gb, nx * 4, none⟩) hbg (.int .i64 xk)).setCell (p := ⟨gb, nx * 4 + 1, none⟩) hbg (.int .i64 xa)).setCell (p := ⟨gb, nx * 4 + 2, none⟩) hbg (.int .i64 xb)).setCell (p := ⟨gb, nx * 4 + 3, none⟩) hbg (.int .i64 xt)).setCell (p := ⟨g, 1, none⟩) hgb (.int .i64 ((nx : Int) + 1))
  go_end0
  exact ⟨rfl, own_call hO5 (Below.refl _ _).drew, hB5.drew, hD5.drew⟩
end Go.Proofs.Yteoajadcdjaalaa
