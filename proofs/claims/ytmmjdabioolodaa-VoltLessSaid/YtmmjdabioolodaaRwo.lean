/- Gains without an electrode: the specification's contract. A table copied. -/
import Derived.Test.YtmmjdabioolodaaWou
import Derived.Test.YtmmjdabioolodaaRck
import Derived.Test.YtmmjdabioolodaaRsum
import Derived.Test.YtmmjdabioolodaaRrm
namespace Go.Proofs.Ytmmjdabioolodaa
open Go.RowKit

theorem Rd.dropI {w : World} {b o : Nat} {l : List Int} (h : Rd w (some ⟨b, o, none⟩) (ints l)) (k : Nat) : Rd w (some ⟨b, o + k, none⟩) (ints (l.drop k)) := by
  rcases h with h | ⟨b', o', he, hb, hc⟩
  · exact .inl (by rw [← ints_drop', h]; simp)
  · injection he with he
    injection he with e1 e2
    subst e1 e2
    refine .inr ⟨b, o + k, rfl, hb, fun j v hv => ?_⟩
    rw [← ints_drop', List.getElem?_drop] at hv
    rw [Nat.add_assoc]; exact hc _ _ hv
theorem Rd.takeI {w : World} {A : Option Addr} {l : List Int} (h : Rd w A (ints l)) (k : Nat) : Rd w A (ints (l.take k)) := by
  have e : ints l = ints (l.take k) ++ ints (l.drop k) := by rw [← ints_append, List.take_append_drop]
  rw [e] at h
  exact h.head
/-- A new row: a list without one number. -/
theorem row_erase (w : World) (b o c i : Nat) (y : List Int) (hl : y.length ≤ 1000) (hi : i < y.length) (hc : y.length ≤ c) (hr : Rd w (some ⟨b, o, none⟩) (ints y)) :
    ∃ o2 A1 c1 W1, (if c = i + 1 then some (⟨b, o, none⟩ : Addr) else some ⟨b, o + (i + 1), none⟩) = some ⟨b, o2, none⟩ ∧ (∀ ty, (Builtin.append_ #[23, 23] ty #[.slice (some ⟨w.heap.size, 0, none⟩) 0 0, .slice (some ⟨b, o, none⟩) i c]).run Try.prog ((w.alloc (.cells #[] 3)).drew) = .ok (.slice A1 i c1) W1) ∧ Below w.heap.size w W1 ∧
      ∃ A2 c2 W2, (∀ ty, (Builtin.append_ #[23, 23] ty #[.slice A1 i c1, .slice (some ⟨b, o2, none⟩) (y.length - (i + 1)) (c - (i + 1))]).run Try.prog W1 = .ok (.slice A2 (i + (y.length - (i + 1))) c2) W2) ∧
        W2.ownsRow w.heap.size 3 1 (.slice A2 (i + (y.length - (i + 1))) c2) (i + (y.length - (i + 1))) (ints (y.eraseIdx i)) ∧ Below w.heap.size w W2 := by
  obtain ⟨i0, hinf, hz0, hz1, hz2⟩ := info_parts int_info
  have hown := World.ownsRow_made (e := 3) (size := 1) w #[] 0 (Nat.le_refl _) (by decide) rfl
  have hb0 : Below w.heap.size w (w.alloc (.cells #[] 3)).drew := (bl_alloc (Below.refl _ _) _).drew
  have hownd := own_call hown (Below.refl (w.alloc (.cells #[] 3)).heap.size _).drew
  obtain ⟨A1, c1, W1, h1, h2, h3⟩ := run_append_rows (P := Try.prog) (w.alloc (.cells #[] 3)).drew w.heap.size 23 3 i0 _ 1 8 Try.underlying23 hinf hz0 hz1 hz2 rfl (by decide) _ 0 [] hownd (some ⟨b, o, none⟩) i c (ints (y.take i)) (by simp; omega) (ints_one _) ((hr.takeI i).later hb0) (by unfold maxLen; omega) (by omega) hb0.size
  have hb1 : Below w.heap.size w W1 := hb0.trans (grown_below hownd h3 hb0.size)
  simp only [Nat.zero_add, List.nil_append] at h1 h2
  obtain ⟨o2, ho2, hrd2⟩ : ∃ o2, (if c = i + 1 then some (⟨b, o, none⟩ : Addr) else some ⟨b, o + (i + 1), none⟩) = some ⟨b, o2, none⟩ ∧ Rd W1 (some ⟨b, o2, none⟩) (ints (y.drop (i + 1))) := by
    by_cases h : c = i + 1
    · exact ⟨o, by rw [if_pos h], .inl (by rw [List.drop_of_length_le (by omega)]; rfl)⟩
    · exact ⟨_, by rw [if_neg h], (hr.dropI (i + 1)).later hb1⟩
  obtain ⟨A2, c2, W2, k1, k2, k3⟩ := run_append_rows (P := Try.prog) W1 w.heap.size 23 3 i0 _ 1 8 Try.underlying23 hinf hz0 hz1 hz2 rfl (by decide) _ i (ints (y.take i)) h2 (some ⟨b, o2, none⟩) (y.length - (i + 1)) (c - (i + 1)) (ints (y.drop (i + 1))) (by simp) (ints_one _) hrd2 (by unfold maxLen; omega) (by omega) hb1.size
  rw [← ints_append, ← List.eraseIdx_eq_take_drop_succ] at k2
  exact ⟨o2, A1, c1, W1, ho2, h1, hb1, A2, c2, W2, k1, k2, hb1.trans (grown_below h2 k3 hb1.size)⟩
/-- A table and no error. -/
def OutT (ls : List (List Int)) (w : World) (e : Ending) (w' : World) : Prop :=
  ∃ A' c' R, e = .returned (.slice A' ls.length c') ∧ RT w' A' R ls ∧ Below w.heap.size w w'
set_option maxRecDepth 100000 in
set_option maxHeartbeats 4000000 in
theorem CopyTable_c (A : Option Addr) (R : Rows) (ls : List (List Int)) (cap : Nat) (w : World) (hl : Brief ls) (hr : RT w A R ls) :
    Calls Try.prog 49 #[.slice A ls.length cap] w (OutT ls w) := by
  have HLR := Lib.hid hl.2
  have hl1 := hl.1
  have HT : Hid (∀ k, k < ls.length → ls.take (k + 1) = ls.take k ++ [ls.getD k []]) := fun k hk => row_take_succ hk
  have HTA : Hid (ls.take ls.length = ls) := List.take_length
  clear hl
  unfold OutT
  go_enter Try.func49, Try.ntmps49
  go_wp2_with (fail)
  go_loopg [3, 4] ls.length (fun gk ov iv wr => ∃ (k : Nat) (D : Option Addr) (d : Nat) (hs : List Value), Hid (k + gk = ls.length) ∧ iv = .int .i64 (k : Int) ∧ ov = .slice D k d ∧ wr.ownsRow w.heap.size 23 1 (.slice D k d) k hs ∧ Tab wr w.heap.size hs (ls.take k) ∧ Below w.heap.size w wr)
  case atStart => exact ⟨0, none, 0, [], by simp [Hid], rfl, rfl, World.ownsRow_nil _ _ _ _, Tab.nil _ _, Below.refl _ _⟩
  case round =>
    obtain ⟨k, D, d, hs, HK, rfl, rfl, hown, htab, hb⟩ := hrel
    rcases gk with _ | gi
    · obtain rfl : k = ls.length := HK.out
      rw [HTA.out] at htab
      obtain ⟨S, rfl, hrt, _⟩ := htab.rt hown
      clear hown htab
      go_wp2_with (fail)
      go_ret
      exact ⟨D, d, S, rfl, hrt, hb⟩
    · have hkN : k < ls.length := by have := HK.out; omega
      have hkN' : (k : Int) < (ls.length : Int) := by omega
      have hy := HLR.out k hkN
      obtain ⟨b, o, rfl, _, HC⟩ := (hr.later hb).all_ (by omega)
      have c1 := HC (wr.alloc (.cells #[] 3)) (bl_alloc (Below.refl _ _) _) k hkN
      have hrow := (hr.later hb).row k hkN
      obtain ⟨A6, c6, w6, hrun6, hown6, hb6⟩ := row_copy wr (R k).1 (ls.getD k []) (R k).2 hy hrow
      obtain ⟨A7, c7, w7, hrun7, hown7, hb7, hg7⟩ := append_slice w.heap.size w6 _ k hs (.slice A6 (ls.getD k []).length c6) rfl (own_call hown hb6) (by omega) (Nat.le_trans hb.size hb6.size)
      have E1 := Lib.hid hrun6
      have E2 := Lib.hid hrun7
      have htab7 : Hid (Tab w7 w.heap.size (hs ++ [.slice A6 (ls.getD k []).length c6]) (ls.take (k + 1))) := by
        show Tab _ _ _ _
        rw [HT.out k hkN]
        exact (Tab.call (Tab.snoc (htab.call hb6) (own_base hown6 hb.size)) (bl_alloc (Below.refl _ _) _)).grown ((own_call hown hb6).alloc _) (by decide) hg7
      have hb07 := (bl_call hb hb6).trans hb7
      clear hrun6 hrun7 hg7 hown htab hb6 hb7 hown6 hrow HC hy
      generalize (ls.getD k []).length = rl at *
      go_wp2_with (at_builtin; first
        | refine wpList_append_eq (w := wr.alloc (.cells #[] 3)) rfl _ _ 23 rfl _ _ _ w6 rfl rfl E1.out ?_
        | refine wpList_append_eq (w := w6.alloc (.cells #[.slice A6 rl c6] 23)) rfl _ _ 22 rfl _ _ _ w7 rfl rfl E2.out ?_)
      go_roundg gi
      case rel => exact ⟨k + 1, A7, c7, _, by have := HK.out; show _ = _; omega, by go_num, rfl, hown7, htab7.out, hb07⟩
      case measure => omega
set_option maxRecDepth 100000 in
set_option maxHeartbeats 8000000 in
theorem rWithout_c (A : Option Addr) (R : Rows) (g : List (List Int)) (cap : Nat) (x : Int) (w : World) (hl : Brief g) (hcp : ∀ k, k < g.length → (g.getD k []).length ≤ (R k).2 ∧ (R k).2 ≤ maxLen) (hr : RT w A R g) :
    Calls Try.prog 51 #[.slice A g.length cap, .int .i64 x] w (OutTab (lesG g x) (lesE g x) w) := by
  have HV := Lib.hid (rValidate_c A R g cap w hl hr)
  have HFO : Hid (∀ (n : Nat) (E : Int) (A' : Option Addr) (c' : Nat) (S : Rows) (w' : World), (lesG g x).length = n → lesE g x = E → w'.ownsRow w.heap.size 23 1 (.slice A' n c') n (rowsV S (lesG g x)) → RT w' A' S (lesG g x) → (∀ k, k < (lesG g x).length → w'.ownsRow w.heap.size 3 1 (.slice (S k).1 ((lesG g x).getD k []).length (S k).2) ((lesG g x).getD k []).length (ints ((lesG g x).getD k []))) → Below w.heap.size w w' → OutTab (lesG g x) (lesE g x) w (.returned (.tuple #[.slice A' n c', .int .i64 E])) w') := fun n E A' c' S w' h1 h2 h3 h4 h5 h6 => by
    subst h1 h2; exact ⟨A', c', S, rfl, h3, h4, h5, h6⟩
  have HNO : Hid (∀ (E : Int) w', lesE g x = E → E ≠ 0 → Below w.heap.size w w' → OutTab (lesG g x) (lesE g x) w (.returned (.tuple #[.slice none 0 0, .int .i64 E])) w') := fun E w' h1 h2 h3 => by
    rw [les_no (by rw [h1]; exact h2), h1]
    exact ⟨none, 0, fun _ => (none, 0), rfl, World.ownsRow_nil _ _ _ _, ⟨.inl rfl, fun k hk => by simp at hk⟩, fun k hk => by simp at hk, h3⟩
  rcases hx : okG g with _ | _
  · have HE : Hid (lesE g x = 1) := by show _ = _; unfold lesE; rw [hx]; rfl
    rw [hx] at HV
    go_enter Try.func51, Try.ntmps51
    go_wp2_with (fail)
    refine HV.out.mono ?_
    rintro e w1 ⟨rfl, hb1⟩
    rw [errB_f]
    go_wp2_with (fail)
    go_ret2
    exact HNO.out _ _ HE.out (by decide) hb1
  · have hg := okG_iff.1 hx
    have hp3 := hg.pts
    have hw3 := hg.wrs
    rw [hx] at HV
    obtain ⟨b, o, rfl, _, HC⟩ := hr.all_ (by omega)
    have HC0 : Hid (∀ w1, Below w.heap.size w w1 → w1.cell? ⟨b, o, none⟩ = some (.slice (R 0).1 (wires g) (R 0).2)) := fun w1 h => by have := HC w1 h 0 (by omega); rwa [Nat.add_zero] at this
    have hgl : (0 : Int) < (g.length : Int) := by omega
    have hgl2 : 0 < g.length := by omega
    have hgn : ¬ g = [] := by rintro rfl; simp at hgl2
    by_cases h0 : x < 0
    · have HE : Hid (lesE g x = 4) := by show _ = _; unfold lesE; rw [if_pos hx, if_neg (by omega)]
      go_enter Try.func51, Try.ntmps51
      go_wp2_with (fail)
      refine HV.out.mono ?_
      rintro e w1 ⟨rfl, hb1⟩
      rw [errB_t]
      go_wp2_with (fail)
      go_ret2
      exact HNO.out _ _ HE.out (by decide) hb1
    · by_cases h1 : x < wires g
      · have h1' : ¬ (wires g : Int) ≤ x := by omega
        by_cases h2 : wires g = 1
        · have HE : Hid (lesE g x = 1) := by show _ = _; unfold lesE; rw [if_pos hx, if_pos ⟨by omega, h1⟩, if_pos h2]
          rw [h2] at HC0 h1'
          rw [show ((1 : Nat) : Int) = 1 from rfl] at h1'
          clear h2 h1 hw3
          go_enter Try.func51, Try.ntmps51
          go_wp2_with (fail)
          refine HV.out.mono ?_
          rintro e w1 ⟨rfl, hb1⟩
          rw [errB_t]
          have c0 := HC0.out w1 hb1
          go_wp2_with (fail)
          go_ret2
          exact HNO.out _ _ HE.out (by decide) hb1
        · have hE : lesE g x = 0 := by unfold lesE; rw [if_pos hx, if_pos ⟨by omega, h1⟩, if_neg h2]
          have HE := Lib.hid hE
          obtain ⟨i, rfl⟩ : ∃ i : Nat, x = (i : Int) := ⟨x.toNat, by omega⟩
          have HG : Hid (lesG g (i : Int) = lessL g i) := (les_ok hE).2.2.2.2
          have hin : i < wires g := by omega
          have HGL : Hid ((lessL g i).length = g.length) := lessL_len g i
          have HTK : Hid (∀ k, k < g.length → (lessL g i).take (k + 1) = (lessL g i).take k ++ [(g.getD k []).eraseIdx i]) := fun k hk => less_take hk
          have HTA : Hid ((lessL g i).take g.length = lessL g i) := by show _ = _; rw [← HGL.out, List.take_length]
          have HT0 : Hid ((lessL g i).take 0 = []) := rfl
          have HRL : Hid (∀ k, k < g.length → (g.getD k []).length = wires g) := fun k hk => (hg.row k hk).len
          have h2' : ¬ (wires g : Int) = 1 := by omega
          have HCP := Lib.hid hcp
          have hi0 : decide ((i : Int) < 0) = false := decide_eq_false (by omega)
          have hni : decide (wires g ≤ i) = false := decide_eq_false (by omega)
          have hn1 : ((wires g : Int) == 1) = false := by simp; omega
          have HC2 := Lib.hid HC
          clear hE h1 h0 hx hg HNO h2 hcp HC
          generalize hwn : wires g = n at *
          go_enter Try.func51, Try.ntmps51
          go_wp2_with (fail)
          refine HV.out.mono ?_
          rintro e w1 ⟨rfl, hb1⟩
          rw [errB_t]
          have c0 := HC0.out w1 hb1
          go_wp2_with (fail)
          clear c0
          go_loopg [7, 8] g.length (fun gk ov iv wr => ∃ (k : Nat) (D : Option Addr) (d : Nat) (hs : List Value), Hid (k + gk = g.length) ∧ iv = .int .i64 (k : Int) ∧ ov = .slice D k d ∧ wr.ownsRow w.heap.size 23 1 (.slice D k d) k hs ∧ Tab wr w.heap.size hs ((lessL g i).take k) ∧ Below w.heap.size w wr)
          case atStart => exact ⟨0, none, 0, [], by simp [Hid], rfl, rfl, World.ownsRow_nil _ _ _ _, by rw [HT0.out]; exact Tab.nil _ _, hb1⟩
          case round =>
            clear hb1
            obtain ⟨k, D, d, hs, HK, rfl, rfl, hown, htab, hb⟩ := hrel
            rcases gk with _ | gi
            · obtain rfl : k = g.length := HK.out
              rw [HTA.out] at htab
              obtain ⟨S, rfl, hrt, hk2⟩ := htab.rt hown
              clear htab
              rw [← HG.out] at hrt hk2 hown
              go_wp2_with (fail)
              go_ret2
              exact HFO.out _ _ _ _ _ _ (by rw [HG.out]; exact HGL.out) HE.out hown hrt hk2 hb
            · have hkN : k < g.length := by have := HK.out; omega
              have hkN' : (k : Int) < (g.length : Int) := by omega
              have hrl := HRL.out k hkN
              have hrow := (hr.later hb).row k hkN
              obtain ⟨b2, o2', hR2, _, _⟩ := hrow.at_ (k := 0) (by rw [ints_length]; omega)
              have HCk := Lib.hid (fun w1 h => HC2.out w1 h k hkN)
              obtain ⟨hc1, hc2⟩ := HCP.out k hkN
              rw [hR2] at hrow
              simp only [hR2] at HCk
              have HTKk := Lib.hid (HTK.out k hkN)
              generalize (R k).2 = c at *
              generalize g.getD k [] = y at *
              obtain ⟨o2, A1, c1, W1, ho2, F1, hbW, A2, c2, W2, F2, hown2, hb2⟩ := row_erase wr b2 o2' c i y (by omega) (by omega) hc1 hrow
              obtain ⟨A7, c7, w7, hrun7, hown7, hb7, hg7⟩ := append_slice w.heap.size W2 _ k hs (.slice A2 (i + (y.length - (i + 1))) c2) rfl (own_call hown hb2) (by omega) (Nat.le_trans hb.size hb2.size)
              have hel : (y.eraseIdx i).length = i + (y.length - (i + 1)) := by rw [List.length_eraseIdx, if_pos (by omega)]; omega
              have htab7 : Hid (Tab w7 w.heap.size (hs ++ [.slice A2 (i + (y.length - (i + 1))) c2]) ((lessL g i).take (k + 1))) := by
                show Tab _ _ _ _
                rw [HTKk.out]
                have hown2' := own_base hown2 hb.size
                rw [← hel] at hown2' hg7 ⊢
                exact (Tab.call (Tab.snoc (htab.call hb2) hown2') (bl_alloc (Below.refl _ _) _)).grown ((own_call hown hb2).alloc _) (by decide) hg7
              have hb07 := (bl_call hb hb2).trans hb7
              have G1 := Lib.hid F1
              have G2 := Lib.hid F2
              have G3 := Lib.hid hrun7
              have c0 := HCk.out wr.drew hb.drew
              have c3 := HCk.out ((wr.alloc (.cells #[] 3)).drew) (bl_alloc hb _).drew
              rw [hrl] at hc1 G2 G3 htab7 hown7 c0 c3
              have q1 : i ≤ c := by omega
              have q2 : (i : Int) ≤ (c : Int) := by omega
              have q3 : (0 : Int) ≤ (i : Int) + 1 := by omega
              have q4 : (i : Int) + 1 ≤ (n : Int) := by omega
              have q5 : i + 1 ≤ n := by omega
              have q6 : (n : Int) ≤ (c : Int) := by omega
              have q8 : IntKind.i64.wrap ((i : Int) + 1) = (i : Int) + 1 := IntWalk.i64_in _ ⟨by omega, by omega⟩
              have c4 := HCk.out W1 (bl_call hb hbW)
              clear F1 F2 hrun7 hg7 hown htab hown2 hrow hel hb2 hb7
              rw [hrl] at c4
              clear hrl
              go_wp2_with (fail)
              go_region_law (first
                | (refine step_append_run rfl (.tmp 36) (.tmp 42) 23 rfl (.slice (some ⟨wr.heap.size, 0, none⟩) 0 0) (.slice (some ⟨b2, o2', none⟩) i c) (.slice A1 i c1) W1 (by first | rfl | simp [Act.eval, Act.put]) (by first | rfl | simp [Act.eval, Act.put]) G1.out ?_)
                | (refine step_append_run rfl (.tmp 43) (.tmp 50) 23 rfl (.slice A1 i c1) (.slice (some ⟨b2, o2, none⟩) (n - (i + 1)) (c - (i + 1))) (.slice A2 (i + (n - (i + 1))) c2) W2 (by first | rfl | simp [Act.eval, Act.put]) (by first | rfl | simp [Act.eval, Act.put] | simp [Act.eval, Act.put, ← ho2]) G2.out ?_)
                | (refine step_append_run rfl (.tmp 35) (.tmp 52) 22 rfl (.slice D k d) (.slice (some ⟨W2.heap.size, 0, none⟩) 1 1) (.slice A7 (k + 1) c7) w7 (by first | rfl | simp [Act.eval, Act.put]) (by first | rfl | simp [Act.eval, Act.put]) G3.out ?_))
              all_goals
                go_wp2_with (fail)
                go_roundg gi
                case rel => exact ⟨k + 1, A7, c7, _, by have := HK.out; show _ = _; omega, by go_num, rfl, hown7, htab7.out, hb07⟩
                case measure => omega
      · have h1' : (wires g : Int) ≤ x := by omega
        have HE : Hid (lesE g x = 4) := by show _ = _; unfold lesE; rw [if_pos hx, if_neg (by omega)]
        go_enter Try.func51, Try.ntmps51
        go_wp2_with (fail)
        refine HV.out.mono ?_
        rintro e w1 ⟨rfl, hb1⟩
        rw [errB_t]
        have c0 := HC0.out w1 hb1
        go_wp2_with (fail)
        go_ret2
        exact HNO.out _ _ HE.out (by decide) hb1
end Go.Proofs.Ytmmjdabioolodaa
