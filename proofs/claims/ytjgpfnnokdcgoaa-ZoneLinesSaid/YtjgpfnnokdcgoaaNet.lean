/- The net of a trap: the near zones of each zone, as they come, and what one more of them does to the table. -/
import Derived.Test.YtjgpfnnokdcgoaaTab
namespace Go.Proofs.Ytjgpfnnokdcgoaa
open Go.RowKit

/-- The other end of a link. -/
def otherE (z : Int) (x : Int × Int) : Option Int := if x.1 = z then some x.2 else if x.2 = z then some x.1 else none
def nbS (l : List (Int × Int)) (z : Int) : List Int := l.filterMap (otherE z)
def rowsTo (l : List (Int × Int)) (k : Nat) : List (List Int) := (List.range 6).map fun z : Nat => nbS (l.take k) (z : Int)
theorem rowsTo_len (l : List (Int × Int)) (k : Nat) : (rowsTo l k).length = 6 := by simp [rowsTo]
theorem rowsTo_get (l : List (Int × Int)) (k : Nat) {z : Nat} (h : z < 6) : (rowsTo l k).getD z [] = nbS (l.take k) z := by
  simp [rowsTo, h]
theorem nbS_len (l : List (Int × Int)) (z : Int) : (nbS l z).length ≤ l.length := List.length_filterMap_le _ _
theorem rowsTo_step {l : List (Int × Int)} {k i j : Nat} (hk : k < l.length) (hi : i < 6) (hj : j < 6) (hij : i ≠ j) (hx : l.getD k (0, 0) = ((i : Int), (j : Int))) :
    rowsTo l (k + 1) = ((rowsTo l k).set i ((rowsTo l k).getD i [] ++ [(j : Int)])).set j ((rowsTo l k).getD j [] ++ [(i : Int)]) := by
  have ht : l.take (k + 1) = l.take k ++ [((i : Int), (j : Int))] := by rw [← hx, List.take_succ_eq_append_getElem hk]; simp [hk]
  rw [rowsTo_get l k hi, rowsTo_get l k hj]
  apply List.ext_getElem
  · simp [rowsTo]
  · intro z h1 h2
    have hz : z < 6 := by rw [rowsTo_len] at h1; exact h1
    have e0 : (rowsTo l (k + 1))[z] = nbS (l.take (k + 1)) z := by simp [rowsTo]
    refine e0.trans ?_
    rw [ht, nbS, List.filterMap_append, List.getElem_set, List.getElem_set]
    by_cases e1 : j = z
    · subst e1
      rw [if_pos rfl]
      have hne : ¬ (i : Int) = (j : Int) := by omega
      simp [otherE, hne, nbS]
    · rw [if_neg e1]
      by_cases e2 : i = z
      · subst e2
        rw [if_pos rfl]
        simp [otherE, nbS]
      · rw [if_neg e2]
        have h3 : ¬ (i : Int) = (z : Int) := by omega
        have h4 : ¬ (j : Int) = (z : Int) := by omega
        simp [otherE, h3, h4, nbS, rowsTo]
theorem rowsTo_other {l : List (Int × Int)} {k i j : Nat} (hij : i ≠ j) (r : List Int) : ((rowsTo l k).set i r).getD j [] = (rowsTo l k).getD j [] := by
  simp [List.getElem?_set_ne hij]

theorem TabI.far {w : World} {base g p : Nat} {hs : List Value} {ls : List (List Int)} (h : TabI w base hs ls) (hg : g < base) (u : Value) : TabI (w.setCell ⟨g, p, none⟩ u) base hs ls :=
  ⟨h.1, fun k hk => by
    obtain ⟨A, c', h1, h2⟩ := h.2.1 k hk
    exact ⟨A, c', h1, ownsRow_setCell_other (a := ⟨g, p, none⟩) h2 (fun e => by have := (h2.lt _ e).1; simp at this; omega) u⟩, h.2.2⟩

/-- append, whose run is known, as one step of a region that draws. -/
theorem step_append_run {P : Program} {ops : Array Oper} {o : Oper} {a : Act} {w : World} {K : Act → World → Prop} {Q : Exit → Act → World → Prop} {E : Prop}
    (hg : o.guard = none) (s x : Operand) (t : TypeId) (hop : o.op = Op.call { callee := Callee.builtin Builtin.append, args := #[s, x], argTypes := #[t, t] })
    (v1 v2 v' : Value) (W2 : World) (hs : a.eval s = v1) (hx : a.eval x = v2) (hrun : ∀ ty, (Builtin.append_ #[t, t] ty #[v1, v2]).run P w = .ok v' W2) (hK : K (a.put o.dst v') W2) :
    if Region.wanted o (yielded ops a.tmps) = true then Oper.wp P o a w K Q else E := by
  have hw : Region.wanted o (yielded ops a.tmps) = true := by simp [Region.wanted, hg]
  rw [if_pos hw]
  unfold Oper.wp execOp
  simp only [hop, resolve, invoke, builtin, Sem.run_bind, Sem.run_pure, Result.andThen_ok, List.map_toArray, List.map_cons, List.map_nil, hs, hx, hrun]
  exact hK

set_option maxRecDepth 100000 in
/-- What 'n.near[L] = append(n.near[L], x)' does to a net. -/
theorem net_step {w : World} {base g : Nat} {Z : Value} {hs : List Value} {ls : List (List Int)} (L : Nat) (x : Int) (hb : Bx w g 78 (Z :: hs).toArray) (htb : TabI w base hs ls) (h6 : ls.length = 6) (hL : L < 6) (hlen : (ls.getD L []).length ≤ 100) (hbase : base ≤ w.heap.size) (hg : g < base) :
    ∃ A' len c' A2 c2 W2, len = (ls.getD L []).length ∧ w.cell? ⟨g, 1 + L, none⟩ = some (.slice A' len c') ∧ (w.alloc (.cells #[.int .i64 x] 3)).drew.cell? ⟨g, 1 + L, none⟩ = some (.slice A' len c') ∧
      (∀ ty, (Builtin.append_ #[25, 25] ty #[.slice A' len c', .slice (some ⟨w.heap.size, 0, none⟩) 1 1]).run Try.prog ((w.alloc (.cells #[.int .i64 x] 3)).drew) = .ok (.slice A2 (len + 1) c2) W2) ∧
      W2.frozen? ⟨g, 1 + L, none⟩ = false ∧ W2.cell? ⟨g, 1 + L, none⟩ = some (.slice A' len c') ∧ Below base w W2 ∧ Bx (W2.setCell ⟨g, 1 + L, none⟩ (.slice A2 (len + 1) c2)) g 78 (Z :: hs.set L (.slice A2 (len + 1) c2)).toArray ∧
      TabI (W2.setCell ⟨g, 1 + L, none⟩ (.slice A2 (len + 1) c2)) base (hs.set L (.slice A2 (len + 1) c2)) (ls.set L (ls.getD L [] ++ [x])) ∧ (∀ g' T cs, T ≠ 3 → Bx w g' T cs → Bx W2 g' T cs) ∧ w.heap.size ≤ W2.heap.size := by
  obtain ⟨i0, hi, hz0, hz1, hz2⟩ := info_parts int_info
  have hLl : L < ls.length := by omega
  obtain ⟨A', c', h1, h2⟩ := htb.2.1 L hLl
  have hbc := fun (w : World) (hb : Bx w g 78 (Z :: hs).toArray) => (hb.cell (1 + L)).trans (by rw [Nat.add_comm]; simpa using h1 : (Z :: hs).toArray[1 + L]? = some (.slice A' (ls.getD L []).length c'))
  have hba : Below w.heap.size w ((w.alloc (.cells #[.int .i64 x] 3)).drew) := (bl_alloc (Below.refl w.heap.size w) _).drew
  obtain ⟨W1, hW1⟩ : ∃ W1, W1 = (w.alloc (.cells #[.int .i64 x] 3)).drew := ⟨_, rfl⟩
  have hnew : Bx W1 w.heap.size 3 #[.int .i64 x] := by rw [hW1]; exact Bx.drew (Bx.new w _ _)
  rw [← hW1] at hba ⊢
  have h21 := own_call h2 hba
  have hb1 := hb.call hba
  have ht1 := htb.call hba
  have hrun := fun ty => run_append_own_at (P := Try.prog) W1 base 25 ty 3 i0 _ 1 8 Try.underlying25 hi hz0 hz1 hz2 rfl (by decide) _ _ _ h21 ⟨w.heap.size, 0, none⟩ 1 1 [.int .i64 x] rfl
    (fun j u hj => by
      have hadd : (⟨w.heap.size, 0, none⟩ : Addr).add j = ⟨w.heap.size, j, none⟩ := by unfold Addr.add; split <;> simp_all
      rw [hadd, Bx.cell hnew j]; simpa using hj) (fun u hu => by simp at hu; rcases hu with rfl; rfl) (by unfold maxLen; omega) (by omega) (Nat.le_trans hbase hba.size)
  obtain ⟨v', W2, hr, hown2, hg2, hnil, hat⟩ := hrun 0
  have hr' : ∀ ty, (Builtin.append_ #[25, 25] ty #[.slice A' (ls.getD L []).length c', .slice (some ⟨w.heap.size, 0, none⟩) 1 1]).run Try.prog W1 = .ok v' W2 := fun ty => hr
  obtain ⟨A2, c2, rfl⟩ := own_form hown2
  have hx : (ls.getD L [] ++ [x]).length = (ls.getD L []).length + 1 := by simp
  have hown2' : W2.ownsRow base 3 1 (.slice A2 ((ls.getD L []).length + 1) c2) (ls.getD L [] ++ [x]).length (ints (ls.getD L [] ++ [x])) := by rw [hx, ints_snoc]; exact hown2
  have hbl : Below base w W2 := Below.trans (hba.mono hbase) (grown_below h21 hg2 (Nat.le_trans hbase hba.size))
  have hb2 : Bx W2 g 78 (Z :: hs).toArray := (hbl.block g hg).trans hb
  have ht2 := TabI.put ht1 hLl h1 hg2 hown2' (by
    rcases hat with h | h
    · exact .inl h
    · exact .inr h)
  have hb3 := hb2.set (1 + L) (.slice A2 ((ls.getD L []).length + 1) c2)
  refine ⟨A', _, c', A2, c2, W2, rfl, hbc w hb, hbc W1 hb1, hr', hb2.free _, hbc W2 hb2, hbl, ?_, ht2.far hg _, fun g' T cs hT hg' => ?_, hbl.size⟩
  rotate_left
  · have hg1 := hg'.call hba
    refine (hg2.block g' hg1.lt ?_).trans hg1
    intro e
    rcases h21.2 with ⟨h0, _⟩ | ⟨g3, cap, cur, hv3, _, hh, _⟩
    · rw [h0] at e; cases e
    · rw [hv3] at e; cases e
      rw [show W1.heap[g3]? = some (.cells cs T (0, 0)) from hg1] at hh
      injection hh with hh
      injection hh with _ hh
      exact hT hh
  have e : ((Z :: hs).toArray.setIfInBounds (1 + L) (.slice A2 ((ls.getD L []).length + 1) c2)) = (Z :: hs.set L (.slice A2 ((ls.getD L []).length + 1) c2)).toArray := by
    rw [Nat.add_comm]; simp
  rw [← e]; exact hb3
end Go.Proofs.Ytjgpfnnokdcgoaa
