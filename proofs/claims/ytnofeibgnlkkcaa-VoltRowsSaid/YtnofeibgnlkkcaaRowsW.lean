/- VoltRows, walked. -/
import Derived.Test.YtnofeibgnlkkcaaKnw
import Derived.Test.YtnofeibgnlkkcaaWay
import Derived.Test.YtnofeibgnlkkcaaRrm
import Derived.Test.YtnofeibgnlkkcaaCut
namespace Go.Proofs.Ytnofeibgnlkkcaa
open Go.RowKit

def backTo (row : List (List Int)) (t : Nat) : List (List Int) := row.reverse.take t
@[simp] theorem backTo_len {row : List (List Int)} {t : Nat} (h : t ≤ row.length) : (backTo row t).length = t := by unfold backTo; simp; omega
theorem rev_get {row : List (List Int)} {t gi : Nat} (h : t + (gi + 1) = row.length) : row.reverse.getD t [] = row.getD gi [] := by
  rw [List.getD_eq_getElem?_getD, List.getD_eq_getElem?_getD, List.getElem?_reverse (by omega), show row.length - 1 - t = gi by omega]
theorem back_succ {row : List (List Int)} {t gi : Nat} (h : t + (gi + 1) = row.length) : backTo row (t + 1) = backTo row t ++ [row.getD gi []] := by
  unfold backTo
  rw [List.take_add_one, ← rev_get h, List.getD_eq_getElem?_getD, List.getElem?_eq_getElem (by simp; omega)]
  simp
theorem rev_ok {g row : List (List Int)} (h : rowB g row = true) : rowB g row.reverse = true := by
  rw [rowB_iff] at h ⊢
  refine ⟨h.1, by simpa using h.2.len, fun i hi => ?_⟩
  have hi' : i < row.length := by simpa using hi
  rw [rev_get (gi := row.length - 1 - i) (by omega)]
  exact h.2.row _ (by omega)
theorem take_ok {g row : List (List Int)} (h : rowB g row = true) (h2 : 2 ≤ row.length) : rowB g (row.take (row.length - 1)) = true := by
  rw [rowB_iff] at h ⊢
  have hl := h.2.len
  refine ⟨h.1, by simp; omega, fun i hi => ?_⟩
  have hi' : i < row.length - 1 := by simp at hi; omega
  rw [show (row.take (row.length - 1)).getD i [] = row.getD i [] by rw [List.getD_eq_getElem?_getD, List.getD_eq_getElem?_getD, List.getElem?_take_of_lt hi']]
  exact h.2.row _ (by omega)
theorem brief_rev {row : List (List Int)} (h : Brief row) : Brief row.reverse := by
  refine ⟨by have := h.1; simpa using this, fun i hi => ?_⟩
  have hi' : i < row.length := by simpa using hi
  rw [rev_get (gi := row.length - 1 - i) (by omega)]
  exact h.2 _ (by omega)
theorem brief_take {row : List (List Int)} (h : Brief row) (n : Nat) : Brief (row.take n) := by
  refine ⟨by have := h.1; simp; omega, fun i hi => ?_⟩
  have hi' : i < n ∧ i < row.length := by have h3 := hi; rw [List.length_take] at h3; omega
  rw [show (row.take n).getD i [] = row.getD i [] by simp [List.getD_eq_getElem?_getD, hi'.1]]
  exact h.2 _ hi'.2
set_option maxRecDepth 100000 in
set_option maxHeartbeats 4000000 in
theorem voltRows_walk (A : Option Addr) (R : Rows) (g : List (List Int)) (cap : Nat) (B : Option Addr) (T : Rows) (row : List (List Int)) (cap2 : Nat) (w : World) (hcapg : g.length ≤ cap) (hcmg : cap ≤ maxLen) (hcaprow : row.length ≤ cap2) (hcmrow : cap2 ≤ maxLen) (hg : RT w A R g) (hrow : RT w B T row) :
    Calls Try.prog 11 #[.slice A g.length cap, .slice B row.length cap2] w fun e w' => e = .returned (.bool true) ∧ Below w.heap.size w w' := by
  have HK := fun w => Lib.hid (known_c w)
  have HLg := fun w h => Lib.hid (Long_c A R g cap w (by unfold maxLen at hcmg; omega) h)
  have HLrow := fun w h => Lib.hid (Long_c B T row cap2 w (by unfold maxLen at hcmrow; omega) h)
  rcases hxg : longB g with _ | _
  rotate_left
  · rw [hxg] at HLg
    go_enter Try.func11, Try.ntmps11
    have hb0 := Below.refl w.heap.size w
    go_wp2_with (fail)
    refine (HLg _ (hg.later hb0)).out.mono ?_
    rintro e w1 ⟨rfl, hbx⟩
    replace hb0 := bl_call hb0 hbx
    clear hbx
    go_wp2_with (fail)
    refine (HK _).out.mono ?_
    rintro e wk ⟨rfl, hbk⟩
    go_wp2_with (fail)
    go_ret
    exact ⟨rfl, bl_call hb0 hbk⟩
  rw [hxg] at HLg
  obtain ⟨hbrg, hlg, hlrg⟩ := brief_of hxg
  rcases hxrow : longB row with _ | _
  rotate_left
  · rw [hxrow] at HLrow
    go_enter Try.func11, Try.ntmps11
    have hb0 := Below.refl w.heap.size w
    go_wp2_with (fail)
    refine (HLg _ (hg.later hb0)).out.mono ?_
    rintro e w1 ⟨rfl, hbx⟩
    replace hb0 := bl_call hb0 hbx
    clear hbx
    go_wp2_with (fail)
    refine (HLrow _ (hrow.later hb0)).out.mono ?_
    rintro e w1 ⟨rfl, hbx⟩
    replace hb0 := bl_call hb0 hbx
    clear hbx
    go_wp2_with (fail)
    refine (HK _).out.mono ?_
    rintro e wk ⟨rfl, hbk⟩
    go_wp2_with (fail)
    go_ret
    exact ⟨rfl, bl_call hb0 hbk⟩
  rw [hxrow] at HLrow
  obtain ⟨hbrrow, hlrow, hlrrow⟩ := brief_of hxrow
  have H1 := fun w h h' => Lib.hid (Smooth_c A B R T g row cap cap2 w hbrg hbrrow h h')
  rcases hW : rowB g row with _ | _
  · rw [hW, errB_f] at H1
    generalize (smoG g row).1 = n at *
    generalize (smoG g row).2 = b at *
    clear hbrg hbrrow hlg hlrg hlrow hlrrow hxg hxrow hcapg hcmg hcaprow hcmrow hW
    go_enter Try.func11, Try.ntmps11
    have hb0 := Below.refl w.heap.size w
    go_wp2_with (fail)
    refine (HLg _ (hg.later hb0)).out.mono ?_
    rintro e w1 ⟨rfl, hbx⟩
    replace hb0 := bl_call hb0 hbx
    clear hbx
    go_wp2_with (fail)
    refine (HLrow _ (hrow.later hb0)).out.mono ?_
    rintro e w1 ⟨rfl, hbx⟩
    replace hb0 := bl_call hb0 hbx
    clear hbx
    go_wp2_with (fail)
    refine (H1 _ (hg.later hb0) (hrow.later hb0)).out.mono ?_
    rintro e w1 ⟨rfl, hbx⟩
    replace hb0 := bl_call hb0 hbx
    clear hbx
    go_wp2_with (fail)
    refine (HK _).out.mono ?_
    rintro e wk ⟨rfl, hbk⟩
    go_wp2_with (fail)
    go_ret
    exact ⟨rfl, bl_call hb0 hbk⟩
  · have hs1 : smoG g row = ((bestC g row).2, eachB g row) := by unfold smoG; rw [if_pos hW]
    have hs2 : smoG g row.reverse = ((bestC g row).2, eachB g row) := by unfold smoG; rw [if_pos (rev_ok hW), (best_rev g row).1, (best_rev g row).2]
    have hok := rowB_iff.1 hW
    have hlen := hok.2.len
    have H6 := fun A' c' R' w h h' => Lib.hid (Smooth_c A A' R R' g row.reverse cap c' w hbrg (brief_rev hbrrow) h h')
    have H5 := fun gi (hgi : gi < row.length) w h h' => Lib.hid (Ways_c A (T gi).1 R g (row.getD gi []) cap (T gi).2 w hbrg (by have := hlrrow gi hgi; omega) h h')
    have hwy : ∀ gi, gi < row.length → wayB g (row.getD gi []) = true := fun gi hgi => by
      unfold wayB
      rw [okG_iff.2 hok.1, show okW g (row.getD gi []) = true from (okN_iff (by decide)).2 (hok.2.row gi hgi)]; rfl
    replace H5 : ∀ gi (hgi : gi < row.length) w, RT w A R g → Rd w (T gi).1 (ints (row.getD gi [])) → Hid (Calls Try.prog 28 #[.slice A g.length cap, .slice (T gi).1 (row.getD gi []).length (T gi).2] w fun e w' => e = .returned (.tuple #[.int .i64 ((makersL g (row.getD gi [])).length : Int), .int .i64 0]) ∧ Below w.heap.size w w') := fun gi hgi w h h' => by
      have := H5 gi hgi w h h'
      rw [show wayG g (row.getD gi []) = ((makersL g (row.getD gi [])).length : Int) by unfold wayG; rw [if_pos (hwy gi hgi)], hwy gi hgi] at this
      exact this
    have H7 : 2 ≤ row.length → eachB g row = true → ∃ n, n ≤ (bestC g row).2 ∧ ∀ w, RT w A R g → RT w B T (row.take (row.length - 1)) → Hid (Calls Try.prog 46 #[.slice A g.length cap, .slice B (row.length - 1) (row.length - 1)] w fun e w' => e = .returned (.tuple #[.int .i64 n, .bool true, .int .i64 0]) ∧ Below w.heap.size w w') := fun h2 he => by
      refine ⟨(bestC g (row.take (row.length - 1))).2, (best_take he _).2, fun w h h' => ?_⟩
      have := Smooth_c A B R T g (row.take (row.length - 1)) cap (row.length - 1) w hbrg (brief_take hbrrow _) h h'
      rw [show smoG g (row.take (row.length - 1)) = ((bestC g (row.take (row.length - 1))).2, true) by unfold smoG; rw [if_pos (take_ok hW h2), (best_take he _).1], take_ok hW h2, show (row.take (row.length - 1)).length = row.length - 1 by simp] at this
      exact this
    rw [hs1, hW, errB_t] at H1
    simp only [hs2, rev_ok hW, errB_t, List.length_reverse] at H6
    have HBS : Hid (∀ t gi, t + (gi + 1) = row.length → backTo row (t + 1) = backTo row t ++ [row.getD gi []]) := fun t gi h => back_succ h
    have HES : Hid (∀ t gi, t + (gi + 1) = row.length → eachTo g row.reverse (t + 1) = (eachTo g row.reverse t && decide (0 < (makersL g (row.getD gi [])).length))) := fun t gi h => by rw [← rev_get h]; rfl
    have HE0 : Hid (eachTo g row.reverse 0 = true) := rfl
    have HEA : Hid (eachTo g row.reverse row.length = eachB g row) := by show _ = _; rw [← (best_rev g row).1]; unfold eachB; rw [List.length_reverse]
    have HB0 : Hid (backTo row 0 = []) := by show _ = _; unfold backTo; rw [List.take_zero]
    have HBA : Hid (backTo row row.length = row.reverse) := by show _ = _; unfold backTo; rw [List.take_of_length_le (by simp)]
    have HBL : Hid (∀ t, t ≤ row.length → (backTo row t).length = t) := fun t h => backTo_len h
    have HLR := Lib.hid hlrrow
    have HCAP := Lib.hid hcaprow
    have h7 := Lib.hid H7
    have h5 := Lib.hid H5
    have hl1 : 1 ≤ row.length := hlen.1
    have hl5 : row.length ≤ 5 := hlen.2
    obtain ⟨b0, o0, rfl, _, HRA⟩ := hrow.all_ (by omega)
    replace HRA := Lib.hid HRA
    generalize (bestC g row).2 = n at *
    generalize eachB g row = z at *
    clear hbrg hbrrow hlg hlrg hlrow hlrrow hxg hxrow hcapg hcmg hcaprow hcmrow hW hs1 hs2 hok hlen hwy H5 H7
    have q0 : wrap64 ((row.length : Int) - 1) = (row.length : Int) - 1 := IntWalk.wrap64_in _ ⟨by omega, by omega⟩
    go_enter Try.func11, Try.ntmps11
    have hb0 := Below.refl w.heap.size w
    go_wp2_with (fail)
    refine (HLg _ (hg.later hb0)).out.mono ?_
    rintro e w1 ⟨rfl, hbx⟩
    replace hb0 := bl_call hb0 hbx
    clear hbx
    go_wp2_with (fail)
    refine (HLrow _ (hrow.later hb0)).out.mono ?_
    rintro e w1 ⟨rfl, hbx⟩
    replace hb0 := bl_call hb0 hbx
    clear hbx
    go_wp2_with (fail)
    refine (H1 _ (hg.later hb0) (hrow.later hb0)).out.mono ?_
    rintro e w1 ⟨rfl, hbx⟩
    replace hb0 := bl_call hb0 hbx
    clear hbx
    go_wp2_with (fail)
    clear H1
    go_loopg [8, 9, 10] row.length (fun gk bv ev iv wr => ∃ (t : Nat) (D : Option Addr) (d : Nat) (hs' : List Value), Hid (t + gk = row.length) ∧ iv = .int .i64 ((gk : Int) - 1) ∧ ev = .bool (eachTo g row.reverse t) ∧ bv = .slice D t d ∧ wr.ownsRow w.heap.size 23 1 (.slice D t d) t hs' ∧ Tab wr w.heap.size hs' (backTo row t) ∧ Below w.heap.size w wr)
    case atStart => exact ⟨0, none, 0, [], by simp [Hid], rfl, by rw [HE0.out], rfl, World.ownsRow_nil _ _ _ _, by rw [HB0.out]; exact Tab.nil _ _, hb0⟩
    case round =>
      clear hb0
      obtain ⟨t, D, d, hs', HK', hi, rfl, rfl, hown, htab, hb0⟩ := hrel
      rcases gk with _ | gi
      · obtain rfl : t = row.length := HK'.out
        obtain rfl := hi
        obtain ⟨S, rfl, hrt, _⟩ := htab.rt hown
        rw [HBA.out] at hrt
        rw [HEA.out]
        clear hown htab HBS HES HE0 HEA HB0 HBA HBL
        go_wp2_with (fail)
        refine (H6 _ _ _ _ (hg.later hb0) hrt).out.mono ?_
        rintro e w1 ⟨rfl, hbx⟩
        replace hb0 := bl_call hb0 hbx
        clear hbx hrt
        by_cases h2 : 2 ≤ row.length
        · have h2' : ¬ (row.length : Int) < 2 := by omega
          rcases z with _ | _
          · go_wp2_with (fail)
            refine (HK _).out.mono ?_
            rintro e wk ⟨rfl, hbk⟩
            go_wp2_with (fail)
            go_ret
            exact ⟨rfl, bl_call hb0 hbk⟩
          · obtain ⟨m, hm, H8⟩ := h7.out h2 rfl
            obtain ⟨k, hk⟩ : ∃ k, row.length = k + 1 := ⟨row.length - 1, by omega⟩
            have HC := fun w => Lib.hid (cut_run b0 o0 k cap2 (by have := HCAP.out; omega) (by omega) w)
            have hk1 : row.length - 1 = k := by omega
            have hk2 : (row.length : Int) - 1 = (k : Int) := by omega
            rw [hk1] at H8
            rw [hk2] at q0
            have hrt2 := rt_take (hrow.later hb0) k
            have HC' := fun w => (HC w).out
            rw [← hk] at HC'
            clear hk hk1 HC h7
            go_wp2_with (fail)
            refine (H8 _ (hg.later hb0) hrt2).out.mono ?_
            rintro e w1 ⟨rfl, hbx⟩
            replace hb0 := bl_call hb0 hbx
            clear hbx
            go_wp2_with (fail)
            refine (HK _).out.mono ?_
            rintro e wk ⟨rfl, hbk⟩
            go_wp2_with (fail)
            go_ret
            exact ⟨rfl, bl_call hb0 hbk⟩
        · have h2' : (row.length : Int) < 2 := by omega
          go_wp2_with (fail)
          refine (HK _).out.mono ?_
          rintro e wk ⟨rfl, hbk⟩
          go_wp2_with (fail)
          go_ret
          exact ⟨rfl, bl_call hb0 hbk⟩
      · have e1 : ((gi + 1 : Nat) : Int) - 1 = (gi : Int) := by omega
        rw [e1] at hi
        clear e1
        subst hi
        have hgi : gi < row.length := by have := HK'.out; omega
        have hgi' : (gi : Int) < (row.length : Int) := by omega
        have ht5 : t ≤ 5 := by have := HK'.out; omega
        have q1 : wrap64 ((gi : Int) - 1) = (gi : Int) - 1 := IntWalk.wrap64_in _ ⟨by omega, by omega⟩
        have hxl := HLR.out gi hgi
        have c1 := HRA.out (wr.alloc (.cells #[] 3)) (bl_alloc hb0 _) gi hgi
        obtain ⟨A6, c6, w6, hrun6, hown6, hb6⟩ := row_copy wr (T gi).1 (row.getD gi []) (T gi).2 (by omega) ((hrow.later hb0).row gi hgi)
        obtain ⟨A7, c7, w7, hrun7, hown7, hb7, hg7⟩ := append_slice w.heap.size w6 _ t hs' (.slice A6 (row.getD gi []).length c6) rfl (own_call hown hb6) (by omega) (Nat.le_trans hb0.size hb6.size)
        have E1 := Lib.hid hrun6
        have E2 := Lib.hid hrun7
        have htab7 : Hid (Tab w7 w.heap.size (hs' ++ [.slice A6 (row.getD gi []).length c6]) (backTo row (t + 1))) := by
          show Tab _ _ _ _
          rw [HBS.out t gi HK'.out]
          exact (Tab.call (Tab.snoc (htab.call hb6) (own_base hown6 hb0.size)) (bl_alloc (Below.refl _ _) _)).grown ((own_call hown hb6).alloc _) (by decide) hg7
        have hb07 := (bl_call hb0 hb6).trans hb7
        have HESk := Lib.hid (HES.out t gi HK'.out)
        have H5k := Lib.hid (h5.out gi hgi w7 (hg.later hb07) ((hrow.later hb07).row gi hgi))
        have c2 := HRA.out w7 hb07 gi hgi
        generalize hys : (makersL g (row.getD gi [])).length = y at *
        generalize eachTo g row.reverse t = z' at *
        clear hrun6 hrun7 hg7 hown htab hys hxl hb6 hb7 hown6
        generalize (row.getD gi []).length = rl at *
        go_wp2_with (at_builtin; first
          | refine wpList_append_eq (w := wr.alloc (.cells #[] 3)) rfl _ _ 23 rfl _ _ _ w6 rfl rfl E1.out ?_
          | refine wpList_append_eq (w := w6.alloc (.cells #[.slice A6 rl c6] 23)) rfl _ _ 22 rfl _ _ _ w7 rfl rfl E2.out ?_)
        refine H5k.out.out.mono ?_
        rintro e w8 ⟨rfl, hb8⟩
        have hown8 := own_call hown7 hb8
        have htab8 := htab7.out.call hb8
        have hb08 := bl_call hb07 hb8
        by_cases hn : 0 < y
        · have hn' : (0 : Int) < (y : Int) := by omega
          rw [decide_eq_true hn] at HESk
          rcases z' with _ | _
          all_goals
            go_wp2_with (fail)
            go_roundg gi
            case rel => exact ⟨t + 1, A7, c7, _, by have := HK'.out; show _ = _; omega, by go_num, by rw [HESk.out]; rfl, rfl, hown8, htab8, hb08⟩
            case measure => omega
        · have hn' : ¬ (0 : Int) < (y : Int) := by omega
          rw [decide_eq_false hn] at HESk
          rcases z' with _ | _
          all_goals
            go_wp2_with (fail)
            go_roundg gi
            case rel => exact ⟨t + 1, A7, c7, _, by have := HK'.out; show _ = _; omega, by go_num, by rw [HESk.out]; rfl, rfl, hown8, htab8, hb08⟩
            case measure => omega
end Go.Proofs.Ytnofeibgnlkkcaa
