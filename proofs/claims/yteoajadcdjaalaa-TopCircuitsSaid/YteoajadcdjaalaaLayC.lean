/- The layers of a circuit: package circuit's layersOf, Layers and Depth. -/
import Derived.Test.YteoajadcdjaalaaLay
import Derived.Deep.RegionLaw
namespace Go.Proofs.Yteoajadcdjaalaa
open Go.RowKit

/-- append, whose run is known, as one step of a region that draws. -/
theorem step_append_run {P : Program} {ops : Array Oper} {o : Oper} {a : Act} {w : World} {K : Act → World → Prop} {Q : Exit → Act → World → Prop} {E : Prop}
    (hg : o.guard = none) (s x : Operand) (t : TypeId) (hop : o.op = Op.call { callee := Callee.builtin Builtin.append, args := #[s, x], argTypes := #[t, t] })
    (v1 v2 v' : Value) (W2 : World) (hs : a.eval s = v1) (hx : a.eval x = v2) (hrun : ∀ ty, (Builtin.append_ #[t, t] ty #[v1, v2]).run P w = .ok v' W2) (hK : K (a.put o.dst v') W2) :
    if Region.wanted o (yielded ops a.tmps) = true then Oper.wp P o a w K Q else E := by
  have hw : Region.wanted o (yielded ops a.tmps) = true := by simp [Region.wanted, hg]
  rw [if_pos hw]
  unfold Oper.wp execOp
  simp only [hop, resolve, invoke, builtin, Sem.run_bind, Sem.run_pure, Result.andThen_ok, List.map_toArray, List.map_cons, List.map_nil, hs, hx, hrun]
  exact hK
theorem cell_new1 (w : World) (v : Value) (T : TypeId) : ∀ j u, [v][j]? = some u → (w.alloc (.cells #[v] T)).cell? ((⟨w.heap.size, 0, none⟩ : Addr).add j) = some u := by
  intro j u hj
  have hadd : (⟨w.heap.size, 0, none⟩ : Addr).add j = ⟨w.heap.size, j, none⟩ := by unfold Addr.add; split <;> simp_all
  rw [hadd]
  match j, hj with
  | 0, hj => simp at hj; subst hj; simp

set_option maxRecDepth 100000 in
/-- What 'layers[L] = append(layers[L], x)' does to a table. -/
theorem lay_step {w : World} {base n c L : Nat} {A : Option Addr} {hs : List Value} {ls : List (List G)} (x : G) (hown : w.ownsRow base 29 1 (.slice A n c) n hs) (htb : TabG w base hs ls) (hn : n = ls.length) (hL : L < n) (hlen : (ls.getD L []).length ≤ 10) (hbase : base ≤ w.heap.size) :
    ∃ OB A' len c' A2 c2 W2, A = some ⟨OB, 0, none⟩ ∧ L < c ∧ len = (ls.getD L []).length ∧ w.cell? ⟨OB, L, none⟩ = some (.slice A' len c') ∧ (w.alloc (.cells #[.int .i64 x.1, .int .i64 x.2.1, .int .i64 x.2.2.1, .int .i64 x.2.2.2] 23)).drew.cell? ⟨OB, L, none⟩ = some (.slice A' len c') ∧
      (∀ ty, (Builtin.append_ #[29, 29] ty #[.slice A' len c', .slice (some ⟨w.heap.size, 0, none⟩) 1 1]).run Try.prog ((w.alloc (.cells #[.int .i64 x.1, .int .i64 x.2.1, .int .i64 x.2.2.1, .int .i64 x.2.2.2] 23)).drew) = .ok (.slice A2 (len + 1) c2) W2) ∧
      W2.frozen? ⟨OB, L, none⟩ = false ∧ W2.cell? ⟨OB, L, none⟩ = some (.slice A' len c') ∧
      (W2.setCell ⟨OB, L, none⟩ (.slice A2 (len + 1) c2)).ownsRow base 29 1 (.slice A n c) n (hs.set L (.slice A2 (len + 1) c2)) ∧ TabG (W2.setCell ⟨OB, L, none⟩ (.slice A2 (len + 1) c2)) base (hs.set L (.slice A2 (len + 1) c2)) (ls.set L (ls.getD L [] ++ [x])) ∧ Below base w (W2.setCell ⟨OB, L, none⟩ (.slice A2 (len + 1) c2)) := by
  obtain ⟨i0, hi, hz0, hz1, hz2⟩ := info_parts gate_info
  have hLl : L < ls.length := by omega
  obtain ⟨A', c', h1, h2⟩ := htb.2.1 L hLl
  obtain ⟨OB, rfl, hob, hlt, hfr, hcell⟩ := own_cell hown (by omega)
  have hLc : L < c := by
    rcases hown.2 with ⟨h0, _⟩ | ⟨g, cap, cur, hv, _, _, hle, _, _, _⟩
    · cases h0
    · injection hv with _ _ e2; omega
  have hck := hcell L _ h1
  have hba : Below w.heap.size w ((w.alloc (.cells #[.int .i64 x.1, .int .i64 x.2.1, .int .i64 x.2.2.1, .int .i64 x.2.2.2] 23)).drew) := (bl_alloc (Below.refl w.heap.size w) _).drew
  obtain ⟨W1, hW1⟩ : ∃ W1, W1 = (w.alloc (.cells #[.int .i64 x.1, .int .i64 x.2.1, .int .i64 x.2.2.1, .int .i64 x.2.2.2] 23)).drew := ⟨_, rfl⟩
  have hnew : Bx W1 w.heap.size 23 #[.int .i64 x.1, .int .i64 x.2.1, .int .i64 x.2.2.1, .int .i64 x.2.2.2] := by rw [hW1]; exact Bx.drew (Bx.new w _ _)
  rw [← hW1] at hba ⊢
  have h21 := own_call h2 hba
  have ho1 := own_call hown hba
  have ht1 := htb.call hba
  have hrun := fun ty => run_append_own_at (P := Try.prog) W1 base 29 ty 23 i0 _ 4 32 Try.underlying29 hi hz0 hz1 hz2 rfl (by decide) _ _ _ h21 ⟨w.heap.size, 0, none⟩ 1 1 [.int .i64 x.1, .int .i64 x.2.1, .int .i64 x.2.2.1, .int .i64 x.2.2.2] rfl
    (fun j u hj => by
      have hadd : (⟨w.heap.size, 0, none⟩ : Addr).add j = ⟨w.heap.size, j, none⟩ := by unfold Addr.add; split <;> simp_all
      rw [hadd, Bx.cell hnew j]; simpa using hj) (fun u hu => by simp at hu; rcases hu with rfl | rfl | rfl | rfl <;> rfl) (by unfold maxLen; omega) (by omega) (Nat.le_trans hbase hba.size)
  obtain ⟨v', W2, hr, hown2, hg2, hnil, hat⟩ := hrun 0
  have hr' : ∀ ty, (Builtin.append_ #[29, 29] ty #[.slice A' (ls.getD L []).length c', .slice (some ⟨w.heap.size, 0, none⟩) 1 1]).run Try.prog W1 = .ok v' W2 := fun ty => hr
  obtain ⟨A2, c2, rfl⟩ := own_form hown2
  have hx : (ls.getD L [] ++ [x]).length = (ls.getD L []).length + 1 := by simp
  have hown2' : W2.ownsRow base 23 4 (.slice A2 ((ls.getD L []).length + 1) c2) (ls.getD L [] ++ [x]).length (cellsG (ls.getD L [] ++ [x])) := by rw [hx, cellsG_snoc]; exact hown2
  have hne : ∀ b, (Value.slice A' (ls.getD L []).length c').ownBlock = some b → b ≠ OB := fun b hb e => own_apart h21 ho1 (by decide) b hb (by rw [e]; rfl)
  have ho2 : W2.ownsRow base 29 1 (.slice (some ⟨OB, 0, none⟩) n c) n hs := ho1.kept hg2 (by
    cases hb : (Value.slice A' (ls.getD L []).length c').ownBlock with
    | none => exact .inr (by intro e; cases e)
    | some b => exact .inr (fun e => hne b hb (by cases e; rfl)))
  have ht2 := TabG.put ht1 hLl h1 hg2 hown2' (by
    rcases hat with h | h
    · exact .inl h
    · exact .inr h)
  obtain ⟨OB', hO', _, hlt2, hfr2, hcell2⟩ := own_cell ho2 (by omega)
  obtain rfl : OB = OB' := by injection hO' with h; injection h
  refine ⟨OB, A', _, c', A2, c2, W2, rfl, hLc, rfl, hck, (hba.cell (p := ⟨OB, L, none⟩) hlt).trans hck, hr', hfr2 L, hcell2 L _ h1, own_put ho2 _, ht2.cell ho2 L _, ?_⟩
  exact (Below.trans (hba.mono hbase) (grown_below h21 hg2 (Nat.le_trans hbase hba.size))).setCell (p := ⟨OB, L, none⟩) hob _

set_option maxRecDepth 100000 in
set_option maxHeartbeats 4000000 in
theorem layersOf_c (A : Option Addr) (l : List G) (c : Nat) (w : World) (hlen : l.length ≤ 10) (hr : Rd w A (cellsG l)) :
    Calls Try.prog 68 #[.slice A l.length c] w fun e w' => ∃ A' c' hs, e = .returned (.slice A' (layL l).length c') ∧ w'.ownsRow w.heap.size 29 1 (.slice A' (layL l).length c') (layL l).length hs ∧ TabG w' w.heap.size hs (layL l) ∧ Below w.heap.size w w' := by
  obtain ⟨i1, hj, hy0, hy1, hy2⟩ := info_parts gslice_info
  have HLV := Lib.hid (levels_c A l c w (by omega) hr)
  have HLL : Hid (layL l = sortTo (tabTo l (lvL l l.length) l.length) (cntTo (lvL l l.length) l.length)) := by
    show _ = _
    rw [layL, ← sortTo_all, tabTo_len]
  have HB := fun i (hi : i < l.length) => lvL_cnt l hi
  have HR := lvL_range l l.length
  have HN := cntTo_le (lvL l l.length) HR
  have HLE := lvL_len l l.length
  have HPOS := Lib.hid (rowTo_pos l (lvL l l.length) l.length HB)
  have HRL := rowTo_len l (lvL l l.length)
  have HTG := fun i L h => Lib.hid (tabTo_get l (lvL l l.length) (i := i) (L := L) h)
  have HTL := tabTo_len l (lvL l l.length)
  have HNEW := fun i => Lib.hid (@tabTo_new l (lvL l l.length) i)
  have HOLD := fun i => Lib.hid (@tabTo_old l (lvL l l.length) i)
  have HC1 := fun i => Lib.hid (show cntTo (lvL l l.length) (i + 1) = max (cntTo (lvL l l.length) i) (((lvL l l.length).getD i 0).toNat + 1) from rfl)
  have HC0 : Hid (cntTo (lvL l l.length) 0 = 0 ∧ tabTo l (lvL l l.length) 0 = []) := ⟨rfl, rfl⟩
  generalize lvL l l.length = lv at *
  go_enter Try.func68, Try.ntmps68
  go_wp2_with (fail)
  refine HLV.out.mono ?_
  rintro e w2 ⟨rfl, hrow, hb2⟩
  have hsz2 : w.heap.size < w2.heap.size := Bx.lt hrow
  go_wp2_with (fail)
  go_loopg [3, 11] l.length (fun gk sv iv wr => ∃ (i : Nat) (hs : List Value), i + gk = l.length ∧ iv = .int .i64 (i : Int) ∧ wr.ownsRow w2.heap.size 29 1 sv (cntTo lv i) hs ∧ TabG wr w2.heap.size hs (tabTo l lv i) ∧ Below w2.heap.size w2 wr)
  case atStart => exact ⟨0, [], by omega, rfl, by rw [HC0.out.1]; exact World.ownsRow_nil _ _ _ _, by rw [HC0.out.2]; exact TabG.nil _ _, Below.refl _ _⟩
  case round =>
    obtain ⟨i, hs, hil, rfl, hown, htb, hb⟩ := hrel
    obtain ⟨B, d, rfl⟩ := own_form hown
    have hb0 := bl_call hb2 hb
    rcases gk with _ | gi
    · obtain rfl : i = l.length := by omega
      have hTl := HTL l.length
      have hN := HN l.length
      have hRow : Hid (∀ L, L < cntTo lv l.length → (tabTo l lv l.length).getD L [] = rowTo l lv l.length L ∧ 0 < (rowTo l lv l.length L).length ∧ (rowTo l lv l.length L).length ≤ l.length) := fun L h => ⟨(HTG l.length L h).out, HPOS.out L h, HRL l.length L⟩
      clear HTL HN HTG HPOS HRL HB HR HNEW HOLD HC1 HC0 HLV
      generalize cntTo lv l.length = N at *
      generalize tabTo l lv l.length = T at *
      generalize rowTo l lv l.length = R at *
      have hsw := hb.size
      have htb0 : TabG wr w2.heap.size hs (sortTo T 0) := by rw [sortTo_zero]; exact htb
      go_wp2_with (fail)
      go_loopg [39] N (fun gk kv wi => ∃ k : Nat, k + gk = N ∧ kv = .int .i64 (k : Int) ∧ wi.ownsRow w2.heap.size 29 1 (.slice B N d) N hs ∧ TabG wi w2.heap.size hs (sortTo T k) ∧ Below w2.heap.size w2 wi)
      case atStart => exact ⟨0, by omega, rfl, hown, htb0, hb⟩
      case round =>
        obtain ⟨k, hk, rfl, hown2, htb2, hb3⟩ := hrel
        clear hown htb htb0
        have hb30 := bl_call hb2 hb3
        rcases gk with _ | gi
        · obtain rfl : k = N := by omega
          have hLen : Hid ((layL l).length = k) := by show _ = _; rw [HLL.out, sortTo_len, hTl]
          go_wp2_with (fail)
          go_ret
          exact ⟨B, d, hs, by rw [hLen.out]; rfl, own_base (by rw [hLen.out]; exact hown2) (by omega), by rw [HLL.out]; exact htb2.lower (by omega), hb30⟩
        · have hkN : k < N := by omega
          have hkN' : (k : Int) < (N : Int) := by omega
          obtain ⟨hr1, hr2, hr3⟩ := hRow.out k hkN
          have hkT : k < T.length := by omega
          obtain ⟨A', c', h1, h2⟩ := htb2.2.1 k (by rw [sortTo_len]; omega)
          have hS := Lib.hid (sortTo_succ T hkT)
          rw [sortTo_at T hkT, hr1] at h1 h2
          rw [hr1] at hS
          have hsl : (sortTo T k).length = N := by rw [sortTo_len]; omega
          generalize R k = row at *
          obtain ⟨OB, rfl, hob, hlt, hfr, hcell⟩ := own_cell hown2 (by omega)
          have hck := hcell k _ h1
          have HSo := Lib.hid (sort_c w2.heap.size A' row c' _ (by omega) hr2 h2)
          have hkd : k < d := by
            rcases hown2.2 with ⟨h0, _⟩ | ⟨g, cap, cur, hv, _, _, hle, _, _, _⟩
            · cases h0
            · injection hv with _ _ e2; omega
          have hcl := Lib.hid hcell
          clear hcell
          go_wp2_with (fail)
          refine HSo.out.mono ?_
          rintro e w5 ⟨rfl, ho5, hg5⟩
          have hb5 : Below w2.heap.size w2 w5 := hb3.trans (grown_below h2 hg5 hb3.size)
          have hown5 : w5.ownsRow w2.heap.size 29 1 (.slice (some ⟨OB, 0, none⟩) N d) N hs := hown2.kept hg5 (.inr (fun e => own_apart h2 hown2 (by decide) OB (by rw [← e]; rfl) rfl))
          have htb5 : TabG w5 w2.heap.size hs (sortTo T (k + 1)) := by
            have h := TabG.put htb2 (by omega) h1 hg5 (l' := sortG row) (by rw [sortG_len]; exact ho5) (.inl rfl)
            have e : hs.set k (.slice A' row.length c') = hs := by
              apply List.ext_getElem?
              intro j
              by_cases hjk : j = k
              · subst hjk
                rw [List.getElem?_set_self (List.getElem?_eq_some_iff.1 h1).1, h1]
              · rw [List.getElem?_set_ne (Ne.symm hjk)]
            rw [e, ← hS.out] at h
            exact h
          go_wp2_with (fail)
          go_roundg gi
          case rel => exact ⟨k + 1, by omega, by go_num, hown5, htb5, hb5⟩
          case measure => omega
    · have hlt : i < l.length := by omega
      have hlt' : (i : Int) < (l.length : Int) := by omega
      have q1 := Row.get (w := wr) (Bx.call hrow hb) (k := i) (by omega)
      obtain ⟨b, o, rfl, hbl, c0, c1, c2, c3⟩ := (hr.later hb0).gate hlt
      have hG : Hid (∀ w1, Below w.heap.size w w1 → w1.cell? ⟨b, o + i * 4, none⟩ = some (.int .i64 (l.getD i g0).1) ∧ w1.cell? ⟨b, o + i * 4 + 1, none⟩ = some (.int .i64 (l.getD i g0).2.1) ∧ w1.cell? ⟨b, o + i * 4 + 2, none⟩ = some (.int .i64 (l.getD i g0).2.2.1) ∧ w1.cell? ⟨b, o + i * 4 + 3, none⟩ = some (.int .i64 (l.getD i g0).2.2.2)) := fun w1 hb1 => by
        obtain ⟨b', o', he, _, h1⟩ := (hr.later hb1).gate hlt
        injection he with he
        injection he with e1 e2
        subst e1 e2
        exact h1
      have hB := HB i hlt
      have hR := (HR i).1
      have hN := HN i
      have H1 := HNEW i
      have H2 := HOLD i
      have H3 := HC1 i
      have hTl := HTL i
      have hrl := HRL i
      have hTG := HTG i
      generalize l.getD i g0 = x at *
      obtain ⟨xk, xa, xb, xt⟩ := x
      simp only [] at c0 c1 c2 c3
      obtain ⟨L, hL⟩ : ∃ L : Nat, lv.getD i 0 = (L : Int) := ⟨(lv.getD i 0).toNat, by omega⟩
      rw [hL] at q1 hB H1 H2 H3
      simp only [Int.toNat_natCast] at hB H1 H2 H3
      clear hL hR HNEW HOLD HC1 HTL HRL HTG HN HB HR
      generalize cntTo lv i = N at *
      generalize tabTo l lv i = T at *
      have hsw := hb.size
      have hTr : ∀ L, L < N → (T.getD L []).length ≤ 10 := fun L h => by rw [(hTG L h).out]; have := hrl L; omega
      by_cases hnew : L = N
      · subst hnew
        have HT : Hid (tabTo l lv (i + 1) = (T ++ [[]]).set L ((T ++ [[]]).getD L [] ++ [(xk, xa, xb, xt)]) ∧ cntTo lv (i + 1) = L + 1) := by
          refine ⟨?_, by rw [H3.out]; omega⟩
          rw [(H1.out rfl)]
          have e : (T ++ [[]]).getD L [] = ([] : List G) := by simp [hTl]
          rw [e, List.set_append_right _ _ (by omega), hTl, Nat.sub_self]; rfl
        clear H1 H2 H3 hTG
        go_wp2_with (at_builtin; refine wpList_append_own _ rfl _ _ 41 rfl w2.heap.size 29 i1 _ 1 24 Try.underlying41 hj hy0 hy1 hy2 rfl (by decide) _ _ _ rfl (hown.alloc _) ⟨wr.heap.size, 0, none⟩ 1 1 [.slice none 0 0] rfl rfl (cell_new1 _ _ _) (by intro u hu; rw [List.mem_singleton.1 hu]; rfl) (by unfold maxLen; omega) (by omega) (by rw [World.size_alloc]; omega) ?_)
        intro v2 w4 hown4 hg4 _
        have hb4 : Below w2.heap.size w2 w4 := (bl_alloc hb _).trans (grown_below (hown.alloc _) hg4 (by rw [World.size_alloc]; omega))
        have ht4 := (TabG.grown (TabG.call htb (bl_alloc (Below.refl _ _) _)) (hown.alloc _) (by decide) hg4).empty
        obtain ⟨B4, d4, rfl⟩ := own_form hown4
        have hsw4 := hb4.size
        obtain ⟨OB, A', len, c', A2, c2', W2, rfl, hLc, hle, e1, e1', e2, e3, e4, e6, e7, e8⟩ := lay_step (L := L) (xk, xa, xb, xt) hown4 ht4 (by simp [hTl]) (by omega) (by
          have e : (T ++ [[]]).getD L [] = ([] : List G) := by simp [hTl]
          rw [e]; simp) hsw4
        rw [← HT.out.1] at e7
        have HO6 := Lib.hid e6
        have HO7 := Lib.hid e7
        have HO8 := Lib.hid (hb4.trans e8)
        have hxx : (L : Int) < (L : Int) + 1 := by omega
        have hxy : L < L + 1 := by omega
        have hxz : (0 : Int) ≤ (L : Int) := by omega
        obtain ⟨d0, d1, d2, d3⟩ := hG.out w4 (bl_call hb2 hb4)
        simp only [] at d0 d1 d2 d3 e1' e2
        have E2 := Lib.hid e2
        clear hle e6 e7 e8 c0 c1 c2 c3 hown htb hown4 ht4 hg4 hTl hTr hb hb0 e2
        go_wp2_with (fail)
        go_region_law (refine step_append_run rfl (.tmp 28) (.tmp 33) 29 rfl (.slice A' len c') (.slice (some ⟨w4.heap.size, 0, none⟩) 1 1) (.slice A2 (len + 1) c2') W2 (by simp [Act.eval]) (by simp [Act.eval]) E2.out ?_)
        all_goals
          go_wp2_with (fail)
          go_roundg gi
          case rel => exact ⟨i + 1, _, by omega, by go_num, by rw [HT.out.2]; exact HO6.out, HO7.out, HO8.out⟩
          case measure => omega
      · have hLN : L < N := by omega
        have hLN' : ((L : Int) == (N : Int)) = false := by simp; omega
        have HT : Hid (tabTo l lv (i + 1) = T.set L (T.getD L [] ++ [(xk, xa, xb, xt)]) ∧ cntTo lv (i + 1) = N) := ⟨H2.out hLN, by rw [H3.out]; omega⟩
        have hT10 := hTr L hLN
        clear H1 H2 H3 hTG
        obtain ⟨OB, A', len, c', A2, c2', W2, rfl, hLc, hle, e1, e1', e2, e3, e4, e6, e7, e8⟩ := lay_step (L := L) (xk, xa, xb, xt) hown htb hTl.symm hLN hT10 hsw
        rw [← HT.out.1] at e7
        have HO6 := Lib.hid e6
        have HO7 := Lib.hid e7
        have HO8 := Lib.hid (hb.trans e8)
        have hxx : (L : Int) < (N : Int) := by omega
        have hxy : L < N := by omega
        have hxz : (0 : Int) ≤ (L : Int) := by omega
        obtain ⟨d0, d1, d2, d3⟩ := hG.out wr (bl_call hb2 hb)
        simp only [] at d0 d1 d2 d3 e1' e2
        have E2 := Lib.hid e2
        clear hle e6 e7 e8 c0 c1 c2 c3 hown htb hTl hTr hb hb0 e2
        go_wp2_with (fail)
        go_region_law (refine step_append_run rfl (.tmp 28) (.tmp 33) 29 rfl (.slice A' len c') (.slice (some ⟨wr.heap.size, 0, none⟩) 1 1) (.slice A2 (len + 1) c2') W2 (by simp [Act.eval]) (by simp [Act.eval]) E2.out ?_)
        all_goals
          go_wp2_with (fail)
          go_roundg gi
          case rel => exact ⟨i + 1, _, by omega, by go_num, by rw [HT.out.2]; exact HO6.out, HO7.out, HO8.out⟩
          case measure => omega
end Go.Proofs.Yteoajadcdjaalaa
