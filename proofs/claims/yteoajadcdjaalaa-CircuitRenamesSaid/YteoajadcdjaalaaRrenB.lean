/- The document's isOrder and Rename. -/
import Derived.Test.YteoajadcdjaalaaRenB
namespace Go.Proofs.Yteoajadcdjaalaa
open Go.RowKit

/-- One of the first i numbers is q. -/
def thr (to : List Int) (q : Int) : Nat → Bool
  | 0 => false
  | i + 1 => thr to q i || (to.getD i 0 == q)
theorem thr_iff (to : List Int) (q : Int) : ∀ i, thr to q i = true ↔ ∃ j, j < i ∧ to.getD j 0 = q
  | 0 => by simp [thr]
  | i + 1 => by
    rw [thr, Bool.or_eq_true, thr_iff to q i, beq_iff_eq]
    constructor
    · rintro (⟨j, hj, he⟩ | he)
      · exact ⟨j, by omega, he⟩
      · exact ⟨i, by omega, he⟩
    · rintro ⟨j, hj, he⟩
      by_cases h : j = i
      · subst h; exact .inr he
      · exact .inl ⟨j, by omega, he⟩
theorem thr_all (to : List Int) (q : Int) : thr to q to.length = to.contains q := by
  rw [Bool.eq_iff_iff, thr_iff, List.contains_iff_mem]
  constructor
  · rintro ⟨j, hj, he⟩
    rw [← he]; simp [hj]
  · intro hm
    obtain ⟨j, hj, he⟩ := List.mem_iff_getElem.1 hm
    exact ⟨j, hj, by simp [hj, he]⟩

set_option maxRecDepth 100000 in
set_option maxHeartbeats 1000000 in
theorem isOrder_c (n : Int) (A : Option Addr) (to : List Int) (c : Nat) (w : World) (hlen : to.length ≤ 1000) (hr : Rd w A (ints to)) :
    Calls Try.prog 85 #[.slice A to.length c, .int .i64 n] w fun e w' => e = .returned (.bool (ordB n to)) ∧ Below w.heap.size w w' := by
  by_cases hn : (to.length : Int) = n
  · subst hn
    have HO : Hid (∀ i : Nat, (∀ j : Nat, j < i → to.contains (j : Int) = true) → (i < to.length → to.contains (i : Int) = false → ordB (to.length : Int) to = false) ∧ (to.length ≤ i → ordB (to.length : Int) to = true)) := fun i h => by
      refine ⟨fun hi hf => ?_, fun hi => ?_⟩
      · rw [ordB, Int.toNat_natCast, Bool.and_eq_false_iff]
        refine .inr ?_
        rw [List.all_eq_false]
        exact ⟨i, List.mem_range.2 hi, by rw [hf]; decide⟩
      · rw [ordB, Int.toNat_natCast]
        simp only [decide_true, Bool.true_and, List.all_eq_true, List.mem_range]
        exact fun q hq => h q (by omega)
    go_enter Try.func85, Try.ntmps85
    go_wp2_with (fail)
    go_loopg [5] to.length (fun gk kv wr => ∃ i : Nat, Hid (i + gk = to.length) ∧ kv = .int .i64 (i : Int) ∧ Hid (∀ j : Nat, j < i → to.contains (j : Int) = true) ∧ Below w.heap.size w wr)
    case atStart => exact ⟨0, by simp [Hid], rfl, fun j h => by omega, Below.refl _ _⟩
    case round =>
      obtain ⟨i, HI, rfl, HN, hb⟩ := hrel
      have HO' := Lib.hid (HO.out i HN.out)
      rcases gk with _ | gi
      · have hni : ¬ (i : Int) < (to.length : Int) := by have h := HI.out; omega
        have HE := Lib.hid (HO'.out.2 (by have h := HI.out; omega))
        go_wp2_with (fail)
        go_ret
        exact ⟨ret_b HE.out, hb⟩
      · have hil : i < to.length := by have h := HI.out; omega
        have hil' : (i : Int) < (to.length : Int) := by omega
        have HE := Lib.hid (HO'.out.1 hil)
        have HS : Hid (to.contains (i : Int) = true → ∀ j : Nat, j < i + 1 → to.contains (j : Int) = true) := fun h j hj => by
          by_cases hji : j = i
          · subst hji; exact h
          · exact HN.out j (by omega)
        have HTA := Lib.hid (thr_all to (i : Int))
        clear HO' HO
        generalize to.contains (i : Int) = cq at *
        obtain ⟨wo, rfl⟩ : ∃ wo : World, wo = wr := ⟨_, rfl⟩
        go_wp2_with (fail)
        go_loopg [6, 7] to.length (fun gk tv jv wi => ∃ j : Nat, Hid (j + gk = to.length) ∧ jv = .int .i64 (j : Int) ∧ tv = .bool (thr to (i : Int) j) ∧ Below wo.heap.size wo wi)
        case atStart => exact ⟨0, by simp [Hid], rfl, rfl, Below.refl _ _⟩
        case round =>
          obtain ⟨j, HJ, rfl, rfl, hb2⟩ := hrel
          rcases gk with _ | gj
          · have hnj : ¬ (j : Int) < (to.length : Int) := by have h := HJ.out; omega
            have HTE : Hid (thr to (i : Int) j = cq) := by
              show _ = _
              rw [← HTA.out, show j = to.length by have h := HJ.out; omega]
            generalize thr to (i : Int) j = tv at *
            have HTE2 := HTE.out
            subst HTE2
            clear HTE HTA
            cases tv with
            | false =>
              have HE' := Lib.hid (HE.out rfl)
              go_wp2_with (fail)
              go_ret
              exact ⟨ret_b HE'.out, bl_call hb hb2⟩
            | true =>
              have HS' := Lib.hid (HS.out rfl)
              go_wp2_with (fail)
              go_roundg gi
              case rel => exact ⟨i + 1, by have h := HI.out; show _ = _; omega, by go_num, HS'.out, bl_call hb hb2⟩
              case measure => omega
          · have hjl : j < to.length := by have h := HJ.out; omega
            have hjl' : (j : Int) < (to.length : Int) := by omega
            obtain ⟨b, o, rfl, hbl, hc⟩ := ints_cell (hr.later (bl_call hb hb2)) hjl
            have q1 := hc j hjl
            have HT : Hid (thr to (i : Int) (j + 1) = (thr to (i : Int) j || (to.getD j 0 == (i : Int)))) := rfl
            clear hc
            generalize to.getD j 0 = x at *
            generalize thr to (i : Int) j = tv at *
            cases tv
            all_goals
              have HT' := HT.out
              go_wp2_with (fail)
              go_roundg gj
              case rel => exact ⟨j + 1, by have h := HJ.out; show _ = _; omega, by go_num, by rw [HT']; rfl, hb2⟩
              case measure => omega
  · have HE : Hid (ordB n to = false) := by show _ = _; rw [ordB, decide_eq_false hn]; rfl
    have hn' : ((to.length : Int) != n) = true := by rw [bne_iff_ne]; exact hn
    go_enter Try.func85, Try.ntmps85
    go_wp2_with (fail)
    go_ret
    exact ⟨ret_b HE.out, Below.refl _ _⟩

set_option maxRecDepth 100000 in
set_option maxHeartbeats 2000000 in
theorem rRename_c (n : Int) (A B : Option Addr) (l : List G) (to : List Int) (c d : Nat) (w : World) (hlen : l.length ≤ 1000) (hlt : to.length ≤ 1000) (hr : Rd w A (cellsG l)) (hs : Rd w B (ints to)) :
    Calls Try.prog 54 #[.int .i64 n, .slice A l.length c, .slice B to.length d] w (OutG (renL n l to) (renE n l to) w) := by
  obtain ⟨i0, hi, hz0, hz1, hz2⟩ := info_parts gate_info
  have HV := Lib.hid (rvalidate_c n A l c w hlen hr)
  by_cases hv : validE n l = 0
  · obtain ⟨h10, _, _⟩ := gatesE_ang hv
    have HI := fun w1 h1 => Lib.hid (isOrder_c n B to d w1 hlt h1)
    have HGT := Lib.hid (validE_gates hv)
    by_cases ho : ordB n to = true
    · have HB : renL n l to = l.map (renG to) := by rw [renL, if_pos ⟨hv, ho⟩]
      have HE : renE n l to = 0 := by rw [renE, if_pos hv, if_pos ho]
      have hll := ord_len ho
      rw [hv] at HV
      rw [ho] at HI
      rw [HB, HE]
      clear HB HE
      have HML : Hid ((l.map (renG to)).length = l.length) := by show _ = _; simp
      have HTk : Hid (∀ k, k < l.length → (l.take (k + 1)).map (renG to) = (l.take k).map (renG to) ++ [renG to (l.getD k g0)] ∧ ((l.take k).map (renG to)).length = k) := fun k h => by
        refine ⟨?_, by simp; omega⟩
        rw [List.take_succ_eq_append_getElem h, show l[k] = l.getD k g0 by simp [h], List.map_append]; rfl
      have HTa : Hid ((l.take l.length).map (renG to) = l.map (renG to)) := by show _ = _; rw [List.take_length]
      have HTl : Hid (∀ k, k ≤ l.length → ((l.take k).map (renG to)).length = k) := fun k h => by simp; omega
      go_enter Try.func54, Try.ntmps54
      go_wp2_with (fail)
      refine HV.out.mono ?_
      rintro e w1 ⟨rfl, hb1⟩
      go_wp2_with (fail)
      refine (HI _ (hs.later hb1)).out.mono ?_
      rintro e w2 ⟨rfl, hb2⟩
      have hb12 := bl_call hb1 hb2
      go_wp2_with (fail)
      go_loopg [9, 10] l.length (fun gk ov kv wr => ∃ k : Nat, Hid (k + gk = l.length) ∧ kv = .int .i64 (k : Int) ∧ wr.ownsRow w2.heap.size 23 4 ov k (cellsG ((l.take k).map (renG to))) ∧ Below w2.heap.size w2 wr)
      case atStart => exact ⟨0, by simp [Hid], rfl, World.ownsRow_nil _ _ _ _, Below.refl _ _⟩
      case round =>
        obtain ⟨k, HK, rfl, hown, hb⟩ := hrel
        obtain ⟨E, cE, rfl⟩ := own_form hown
        rcases gk with _ | gi
        · obtain rfl : k = l.length := by have h := HK.out; omega
          rw [HTa.out] at hown
          go_wp2_with (fail)
          go_ret2
          exact ⟨E, cE, by rw [HML.out]; rfl, by rw [HML.out]; exact own_base hown hb12.size, bl_call hb12 hb⟩
        · have hkl : k < l.length := by have h := HK.out; omega
          have hkl' : (k : Int) < (l.length : Int) := by omega
          have hrk := hr.later (bl_call hb12 hb)
          have hsk := hs.later (bl_call hb12 hb)
          obtain ⟨b, o, rfl, hbl, c0, c1, c2, c3⟩ := hrk.gate hkl
          have hgk := gate_kinds (HGT.out _ (List.getElem_mem hkl))
          have HX := Lib.hid (HTk.out k hkl).1
          have hxe : l[k] = l.getD k g0 := by simp [hkl]
          rw [hxe] at hgk
          have HGK := Lib.hid hgk.1
          clear hgk hxe
          generalize l.getD k g0 = x at *
          obtain ⟨xk, xa, xb, xt⟩ := x
          simp only [] at c0 c1 c2 c3 HGK
          obtain ⟨a', rfl⟩ : ∃ a' : Nat, xa = (a' : Int) := ⟨xa.toNat, by have h := HGK.out; omega⟩
          have hal : (a' : Int) < (to.length : Int) := by have h := HGK.out; omega
          obtain ⟨b2, o2, rfl, hbl2, hcI⟩ := ints_cell hsk (show a' < to.length by omega)
          have qa := hcI a' (by omega)
          by_cases hk2 : xk = 2
          · subst hk2
            obtain ⟨b', rfl⟩ : ∃ b' : Nat, xb = (b' : Int) := ⟨xb.toNat, by have h := HGK.out; omega⟩
            have hbl' : (b' : Int) < (to.length : Int) := by have h := HGK.out; omega
            have qb := hcI b' (by omega)
            have e : renG to (2, (a' : Int), (b' : Int), xt) = (2, min (to.getD a' 0) (to.getD b' 0), max (to.getD a' 0) (to.getD b' 0), xt) := rfl
            rw [e] at HX
            clear e hcI
            generalize to.getD a' 0 = ta at *
            generalize to.getD b' 0 = tb at *
            have HBX : Bx (wr.alloc (.cells #[.int .i64 2, .int .i64 ta, .int .i64 b', .int .i64 xt] 23)) wr.heap.size 23 #[.int .i64 2, .int .i64 ta, .int .i64 b', .int .i64 xt] := Bx.new wr _ _
            obtain ⟨p0, p1, p2, p3, f0, f1, f2, f3⟩ := HBX.four
            go_wp2_with (fail)
            go_region
            clear p0 p1 p2 p3 f0 f1 f2 f3 HBX
            have HR4 : Rd ((wr.alloc (.cells #[.int .i64 2, .int .i64 (min ta tb), .int .i64 (max ta tb), .int .i64 xt] 23)).alloc (.cells #[.int .i64 2, .int .i64 (min ta tb), .int .i64 (max ta tb), .int .i64 xt] 23)).drew (some ⟨wr.heap.size + 1, 0, none⟩) (cellsG [(2, min ta tb, max ta tb, xt)]) := Rd.later (Bx.rd (cs := [.int .i64 2, .int .i64 (min ta tb), .int .i64 (max ta tb), .int .i64 xt]) (Bx.newAt (w := wr.alloc (.cells #[.int .i64 2, .int .i64 (min ta tb), .int .i64 (max ta tb), .int .i64 xt] 23)) (by simp))) (Below.refl _ _).drew
            have hb5 : Below wr.heap.size wr ((wr.alloc (.cells #[.int .i64 2, .int .i64 (min ta tb), .int .i64 (max ta tb), .int .i64 xt] 23)).alloc (.cells #[.int .i64 2, .int .i64 (min ta tb), .int .i64 (max ta tb), .int .i64 xt] 23)).drew := (bl_alloc (bl_alloc (Below.refl _ _) _) _).drew
            have hown5 := own_call hown hb5
            have hs5 := Nat.le_trans hb.size hb5.size
            go_wp2_with (at_builtin; refine wpList_append_any rfl _ _ 29 rfl w2.heap.size 23 i0 _ 32 Try.underlying29 hi hz0 hz1 hz2 rfl _ k (cellsG ((l.take k).map (renG to))) rfl hown5 (some ⟨wr.heap.size + 1, 0, none⟩) [(2, min ta tb, max ta tb, xt)] 1 rfl HR4 (by unfold maxLen; simp; omega) (by simp; omega) hs5 ?_)
            intro A' c' w5 ho6 hg6
            have hb6 : Below w2.heap.size w2 w5 := (bl_call hb hb5).trans (grown_below hown5 hg6 hs5)
            have HO : Hid (w5.ownsRow w2.heap.size 23 4 (.slice A' (k + 1) c') (k + 1) (cellsG ((l.take (k + 1)).map (renG to)))) := by
              show World.ownsRow _ _ _ _ _ _ _
              rw [HX.out, cellsG_append, List.map_take]; exact ho6
            clear ho6 hg6 hown5 hown HX
            go_wp2_with (fail)
            go_roundg gi
            case rel => exact ⟨k + 1, by have h := HK.out; show _ = _; omega, by go_num, HO.out, hb6⟩
            case measure => omega
          · have e : renG to (xk, (a' : Int), xb, xt) = (xk, to.getD a' 0, xb, xt) := by rw [renG, if_neg hk2]; rfl
            rw [e] at HX
            clear e hcI
            generalize to.getD a' 0 = ta at *
            have hk2' : (xk == 2) = false := by rw [beq_eq_false_iff_ne]; exact hk2
            have HR4 : Rd ((wr.alloc (.cells #[.int .i64 xk, .int .i64 ta, .int .i64 xb, .int .i64 xt] 23)).alloc (.cells #[.int .i64 xk, .int .i64 ta, .int .i64 xb, .int .i64 xt] 23)) (some ⟨wr.heap.size + 1, 0, none⟩) (cellsG [(xk, ta, xb, xt)]) := Bx.rd (cs := [.int .i64 xk, .int .i64 ta, .int .i64 xb, .int .i64 xt]) (Bx.newAt (by simp))
            have hb5 : Below wr.heap.size wr ((wr.alloc (.cells #[.int .i64 xk, .int .i64 ta, .int .i64 xb, .int .i64 xt] 23)).alloc (.cells #[.int .i64 xk, .int .i64 ta, .int .i64 xb, .int .i64 xt] 23)) := bl_alloc (bl_alloc (Below.refl _ _) _) _
            have hown5 := own_call hown hb5
            have hs5 := Nat.le_trans hb.size hb5.size
            go_wp2_with (at_builtin; refine wpList_append_any rfl _ _ 29 rfl w2.heap.size 23 i0 _ 32 Try.underlying29 hi hz0 hz1 hz2 rfl _ k (cellsG ((l.take k).map (renG to))) rfl hown5 (some ⟨wr.heap.size + 1, 0, none⟩) [(xk, ta, xb, xt)] 1 rfl HR4 (by unfold maxLen; simp; omega) (by simp; omega) hs5 ?_)
            intro A' c' w5 ho6 hg6
            have hb6 : Below w2.heap.size w2 w5 := (bl_call hb hb5).trans (grown_below hown5 hg6 hs5)
            have HO : Hid (w5.ownsRow w2.heap.size 23 4 (.slice A' (k + 1) c') (k + 1) (cellsG ((l.take (k + 1)).map (renG to)))) := by
              show World.ownsRow _ _ _ _ _ _ _
              rw [HX.out, cellsG_append, List.map_take]; exact ho6
            clear ho6 hg6 hown5 hown HX
            go_wp2_with (fail)
            go_roundg gi
            case rel => exact ⟨k + 1, by have h := HK.out; show _ = _; omega, by go_num, HO.out, hb6⟩
            case measure => omega
    · have hof : ordB n to = false := by simpa using ho
      have HB : renL n l to = [] := by rw [renL, if_neg (fun h => ho h.2)]
      have HE : renE n l to = 1 := by rw [renE, if_pos hv, if_neg ho]
      rw [hv] at HV
      rw [hof] at HI
      rw [HB, HE]
      clear HB HE
      go_enter Try.func54, Try.ntmps54
      go_wp2_with (fail)
      refine HV.out.mono ?_
      rintro e w1 ⟨rfl, hb1⟩
      go_wp2_with (fail)
      refine (HI _ (hs.later hb1)).out.mono ?_
      rintro e w2 ⟨rfl, hb2⟩
      go_wp2_with (fail)
      go_ret2
      exact ⟨none, 0, rfl, World.ownsRow_nil _ _ _ _, bl_call hb1 hb2⟩
  · have HB : renL n l to = [] := by rw [renL, if_neg (fun h => hv h.1)]
    have HE : renE n l to = validE n l := by rw [renE, if_neg hv]
    rw [HB, HE]
    clear HB HE
    generalize validE n l = ev at hv HV
    go_enter Try.func54, Try.ntmps54
    go_wp2_with (fail)
    refine HV.out.mono ?_
    rintro e w1 ⟨rfl, hb1⟩
    go_wp2_with (fail)
    go_ret2
    exact ⟨none, 0, rfl, World.ownsRow_nil _ _ _ _, hb1⟩
end Go.Proofs.Yteoajadcdjaalaa
