/- The document's reduce. -/
import Derived.Test.YteoajadcdjaalaaShortM
namespace Go.Proofs.Yteoajadcdjaalaa
open Go.RowKit

/-- Two gates that meet, made one or none. -/
def mergeL (m : List G) (i k : Nat) : List G := (m.set i (setW (m.getD i g0) (m.getD k g0))).eraseIdx k
theorem merge_parts {p q s : List G} {x y : G} : ((p ++ x :: (q ++ y :: s)).set p.length (setW x y)).eraseIdx (p.length + 1 + q.length) = p ++ setW x y :: (q ++ s) := by
  rw [List.set_append_right _ _ (Nat.le_refl _), Nat.sub_self, List.set_cons_zero]
  have e : p ++ setW x y :: (q ++ y :: s) = (p ++ setW x y :: q) ++ y :: s := by simp
  rw [e, List.eraseIdx_append_of_length_le (by simp; omega)]
  have h0 : p.length + 1 + q.length - (p ++ setW x y :: q).length = 0 := by simp; omega
  rw [h0]; simp
theorem erase_parts {p r : List G} {z : G} : (p ++ z :: r).eraseIdx p.length = p ++ r := by
  rw [List.eraseIdx_append_of_length_le (Nat.le_refl _), Nat.sub_self]; simp
theorem merge_step {m : List G} {i k : Nat} (h : MeetAt m i k) (ha : AngL m) :
    alkL (shortL m) (shortL (if sumW (m.getD i g0) (m.getD k g0) = 0 then (mergeL m i k).eraseIdx i else mergeL m i k)) := by
  obtain ⟨p, q, s, x, y, hm, hp, hq, hx, hy, hk, hu⟩ := meet_split h
  unfold mergeL
  rw [← hx, ← hy]
  subst hp hq
  have hAx : Ang x := ha x (by rw [hm]; simp)
  have hAy : Ang y := ha y (by rw [hm]; simp)
  have hpa : AngL p := fun z hz => ha z (by rw [hm]; simp [hz])
  have hqa : AngL q := fun z hz => ha z (by rw [hm]; simp [hz])
  clear hx hy
  subst hm
  have hS : Sh (q.foldl withL (shortL p)) := fold_sh _ _ (short_sh p)
  have hSa : AngL (q.foldl withL (shortL p)) := fold_ang _ _ hqa (shortL_ang hpa)
  have h1 : shortL (p ++ x :: (q ++ y :: s)) = s.foldl withL (withL (q.foldl withL (withL (shortL p) x)) y) := by
    unfold shortL
    rw [List.foldl_append, List.foldl_cons, List.foldl_append, List.foldl_cons]
  have h2 := fold_alk s ((with_alk (fold_comm q (shortL p) hu) y).trans (with_two hS hSa hk hAx hAy))
  rw [h1]
  refine h2.trans ?_
  rw [merge_parts]
  by_cases h0 : sumW x y = 0
  · rw [if_pos h0, if_pos h0, erase_parts]
    have e : shortL (p ++ (q ++ s)) = s.foldl withL (q.foldl withL (shortL p)) := by
      unfold shortL; rw [List.foldl_append, List.foldl_append]
    rw [e]; exact alkL.refl _
  · rw [if_neg h0, if_neg h0]
    have e : shortL (p ++ setW x y :: (q ++ s)) = s.foldl withL (q.foldl withL (withL (shortL p) (setW x y))) := by
      unfold shortL; rw [List.foldl_append, List.foldl_cons, List.foldl_append]
    rw [e]
    exact fold_alk s (fold_comm q (shortL p) (hu.key (setW_key x y).symm)).symm
theorem merge_mem {m : List G} {i k : Nat} {z : G} (h : z ∈ mergeL m i k) : z ∈ m ∨ z = setW (m.getD i g0) (m.getD k g0) := List.mem_or_eq_of_mem_set (List.mem_of_mem_eraseIdx h)
theorem merge_ang {m : List G} {i k : Nat} (ha : AngL m) (h0 : sumW (m.getD i g0) (m.getD k g0) ≠ 0) : AngL (mergeL m i k) := fun z hz => by
  rcases merge_mem hz with h | rfl
  · exact ha z h
  · have hr : 0 ≤ sumW (m.getD i g0) (m.getD k g0) ∧ sumW (m.getD i g0) (m.getD k g0) < 16 := by simp only [sumW]; omega
    show 1 ≤ sumW _ _ ∧ sumW _ _ ≤ 15
    omega
theorem merge_erase_mem {m : List G} {i k : Nat} (h : MeetAt m i k) {z : G} (hz : z ∈ (mergeL m i k).eraseIdx i) : z ∈ m := by
  obtain ⟨p, q, s, x, y, hm, hp, hq, hx, hy, hk, hu⟩ := meet_split h
  unfold mergeL at hz
  rw [← hx, ← hy] at hz
  subst hp hq
  clear hx hy
  subst hm
  rw [merge_parts, erase_parts] at hz
  simp at hz ⊢
  rcases hz with h | h | h
  · exact .inl h
  · exact .inr (.inr (.inl h))
  · exact .inr (.inr (.inr (.inr h)))
theorem merge_gs {m : List G} {i k : Nat} (hg : Gs m) (hi : i < m.length) (h0 : sumW (m.getD i g0) (m.getD k g0) ≠ 0) : Gs (mergeL m i k) := fun z hz => by
  rcases merge_mem hz with h | rfl
  · exact hg z h
  · exact setW_gate (hg.get hi) h0
theorem merge_len {m : List G} {i k : Nat} (hk : k < m.length) : (mergeL m i k).length + 1 = m.length := by
  unfold mergeL
  rw [List.length_eraseIdx, List.length_set, if_pos hk]; omega
theorem red_end {m l : List G} (h : alkL (shortL m) (shortL l)) (hn : ∀ i, i < m.length → NoMeetAt m i) : nmTo m.length m = reducedL l := by
  rw [← nameL_nm]
  rw [no_meet_short hn] at h
  exact (alk_iff _ _).1 h

set_option maxRecDepth 100000 in
set_option maxHeartbeats 4000000 in
theorem rreduce_c (A : Option Addr) (l : List G) (c : Nat) (w : World) (hlen : l.length ≤ 1000) (hg : Gs l) (hang : AngL l) (hr : Rd w A (cellsG l)) :
    Calls Try.prog 76 #[.slice A l.length c] w fun e w' => ∃ A' c', e = .returned (.slice A' (reducedL l).length c') ∧ w'.ownsRow w.heap.size 23 4 (.slice A' (reducedL l).length c') (reducedL l).length (cellsG (reducedL l)) ∧ Below w.heap.size w w' := by
  obtain ⟨i0, hi, hz0, hz1, hz2⟩ := info_parts gate_info
  have hb0 : Below w.heap.size w (w.alloc (.cells #[] 23)) := bl_alloc (Below.refl _ _) _
  have ho0 : (w.alloc (.cells #[] 23)).ownsRow w.heap.size 23 4 (.slice (some ⟨w.heap.size, 0, none⟩) 0 0) 0 (cellsG []) := World.ownsRow_made (e := 23) (size := 4) w #[] 0 (Nat.le_refl _) (by decide) rfl
  go_enter Try.func76, Try.ntmps76
  go_wp2_with (at_builtin; refine wpList_append_any rfl _ _ 29 rfl w.heap.size 23 i0 _ 32 Try.underlying29 hi hz0 hz1 hz2 rfl _ 0 (cellsG []) rfl ho0 A l c rfl (hr.later hb0) (by unfold maxLen; omega) (by omega) (by simp) ?_)
  intro A1 c1 w1 ho1 hg1
  have hb1 : Below w.heap.size w w1 := hb0.trans (grown_below ho0 hg1 (by simp))
  try simp only [Nat.zero_add] at ho1
  have ho1' : w1.ownsRow w.heap.size 23 4 (.slice A1 l.length c1) l.length (cellsG l) := ho1
  clear hg1 ho1 ho0 hb0
  go_wp2_with (fail)
  go_loopg [0] l.length (fun gk cv wr => ∃ (m : List G) (A' : Option Addr) (c' : Nat), Hid (m.length = gk) ∧ m.length ≤ 1000 ∧ Gs m ∧ AngL m ∧ Hid (alkL (shortL m) (shortL l)) ∧ cv = .slice A' m.length c' ∧ wr.ownsRow w.heap.size 23 4 (.slice A' m.length c') m.length (cellsG m) ∧ Below w.heap.size w wr)
  case atStart => exact ⟨l, A1, c1, rfl, hlen, hg, hang, alkL.refl _, rfl, ho1', hb1⟩
  case round =>
    obtain ⟨m, A', c', HM, hml, hgm, ham, HA, rfl, ho, hb⟩ := hrel
    have HMe := Lib.hid (meeting_c A' m c' wr hml hgm (own_rd ho).1)
    go_wp2_with (fail)
    refine HMe.out.mono ?_
    rintro e w2 ⟨i, k, b, rfl, hm, hb2⟩
    have ho2 := own_call ho hb2
    have hb02 := bl_call hb hb2
    clear HMe
    rcases hm with ⟨rfl, hm⟩ | ⟨rfl, hm⟩
    · have hik := hm.1
      have hkl := hm.2.1
      have hil : i < m.length := by omega
      have hik' : (i : Int) < (m.length : Int) := by omega
      have hkl' : (k : Int) < (m.length : Int) := by omega
      have hst := Lib.hid (merge_step hm ham)
      have hAi := ham (m.getD i g0) (by simp [hil])
      have hAk := ham (m.getD k g0) (by simp [hkl])
      unfold Ang at hAi hAk
      have ho2d := own_call ho2 (Below.refl _ _).drew
      have hb2d := hb02.drew
      obtain ⟨g, rfl, hgb, hgl, hfr, hcell⟩ := own_cell ho2 (by omega)
      obtain ⟨c0, c1', c2', c3'⟩ := cellsG_get m i hil
      obtain ⟨d0, d1', d2', d3'⟩ := cellsG_get m k hkl
      have p3 := hcell _ _ c3'
      have q3 := hcell _ _ d3'
      have hf3 := hfr (i * 4 + 3)
      have hset := own_put ho2d (p := i * 4 + 3) (.int .i64 (sumW (m.getD i g0) (m.getD k g0)))
      have hcs : (cellsG m).set (i * 4 + 3) (.int .i64 (sumW (m.getD i g0) (m.getD k g0))) = cellsG (m.set i (setW (m.getD i g0) (m.getD k g0))) := cellsG_set m i (setW (m.getD i g0) (m.getD k g0)) (m.getD i g0) rfl rfl rfl rfl
      rw [hcs] at hset
      have hb3 := hb2d.setCell (p := ⟨g, i * 4 + 3, none⟩) hgb (.int .i64 (sumW (m.getD i g0) (m.getD k g0)))
      have hcap := own_cap ho2
      have hM1l : (m.set i (setW (m.getD i g0) (m.getD k g0))).length = m.length := by simp
      have hp3' : ((w2.drew).setCell ⟨g, i * 4 + 3, none⟩ (.int .i64 (sumW (m.getD i g0) (m.getD k g0)))).cell? ⟨g, i * 4 + 3, none⟩ = some (.int .i64 (sumW (m.getD i g0) (m.getD k g0))) := by
        have hs2 := hset
        rw [← hM1l] at hs2
        obtain ⟨g2, hg2, _, _, _, hcell2⟩ := own_cell hs2 (by rw [hM1l]; omega)
        obtain rfl : g = g2 := by injection hg2 with h; injection h
        obtain ⟨_, _, _, e3⟩ := cellsG_get (m.set i (setW (m.getD i g0) (m.getD k g0))) i (by rw [hM1l]; exact hil)
        have e4 : ((m.set i (setW (m.getD i g0) (m.getD k g0))).getD i g0) = setW (m.getD i g0) (m.getD k g0) := by simp [hil]
        rw [e4] at e3
        exact hcell2 _ _ e3
      have HG2 := Lib.hid (fun h => merge_gs (k := k) hgm hil h)
      have HA2 := Lib.hid (fun h => merge_ang (m := m) (i := i) (k := k) ham h)
      have HE := Lib.hid (fun z hz => @merge_erase_mem m i k hm z hz)
      have HML := Lib.hid (merge_len (m := m) (i := i) hkl)
      have HW := fun w1 h1 => Lib.hid (without_c (some ⟨g, 0, none⟩) (m.set i (setW (m.getD i g0) (m.getD k g0))) c' k w1 (by rw [hM1l]; exact hml) (by rw [hM1l]; exact hcap) (by rw [hM1l]; exact hkl) h1)
      have hme : (m.set i (setW (m.getD i g0) (m.getD k g0))).eraseIdx k = mergeL m i k := rfl
      rw [hme, hM1l] at HW
      have HW2 := fun B d w1 h0 h1 => Lib.hid (without_c B (mergeL m i k) d i w1 (by have := HML.out; omega) h0 (by have := HML.out; omega) h1)
      have hsum : sumW (m.getD i g0) (m.getD k g0) = ((m.getD i g0).2.2.2 + (m.getD k g0).2.2.2) % 16 := rfl
      rw [hsum] at hset hb3 hp3' HG2 HA2 hst
      have hrd3 := (own_rd hset).1
      clear hcell hfr c0 c1' c2' c3' d0 d1' d2' d3' hcs hme hsum hM1l hm ho2 ho2d hset
      generalize (m.getD i g0).2.2.2 = xt at *
      generalize (m.getD k g0).2.2.2 = yt at *
      generalize m.set i (setW (m.getD i g0) (m.getD k g0)) = M1 at *
      generalize mergeL m i k = M2 at *
      have hnn : (0 : Int) ≤ xt + yt := by omega
      obtain ⟨zt, hzt⟩ : ∃ zt, zt = (xt + yt) % 16 := ⟨_, rfl⟩
      rcases hzb : (((xt + yt) % 16) == (0 : Int)) with _ | _
      · have h0 : (xt + yt) % 16 ≠ 0 := by simpa using hzb
        rw [if_neg h0] at hst
        have HG3 := Lib.hid (HG2.out h0)
        have HA3 := Lib.hid (HA2.out h0)
        clear HG2 HA2 HE HW2 h0
        go_wp2_with (fail)
        go_region
        all_goals
          go_wp2_with (fail)
          refine (HW _ hrd3).out.mono ?_
          rintro e w5 ⟨A5, c5, rfl, ho5, hb5⟩
          go_wp2_with (fail)
          go_roundg M2.length
          case rel => exact ⟨M2, A5, c5, rfl, by have := HML.out; omega, HG3.out, HA3.out, hst.out.symm.trans HA.out, rfl, own_base ho5 (by have := hb3.size; simpa using this), bl_call hb3 hb5⟩
          case measure => have := HML.out; have := HM.out; omega
      · have h0 : (xt + yt) % 16 = 0 := by simpa using hzb
        rw [if_pos h0] at hst
        clear HG2 HA2 h0
        go_wp2_with (fail)
        go_region
        all_goals
          go_wp2_with (fail)
          refine (HW _ hrd3).out.mono ?_
          rintro e w5 ⟨A5, c5, rfl, ho5, hb5⟩
          have HW3 := HW2 A5 c5 w5 (own_cap ho5) (own_rd ho5).1
          have hb35 := bl_call hb3 hb5
          go_wp2_with (fail)
          refine HW3.out.mono ?_
          rintro e w6 ⟨A6, c6, rfl, ho6, hb6⟩
          go_wp2_with (fail)
          go_roundg (M2.eraseIdx i).length
          case rel => exact ⟨M2.eraseIdx i, A6, c6, rfl, by have := HML.out; have := List.length_eraseIdx_le M2 i; omega, (fun z hz => hgm z (HE.out z hz)), (fun z hz => ham z (HE.out z hz)), hst.out.symm.trans HA.out, rfl, own_base ho6 hb35.size, bl_call hb35 hb6⟩
          case measure => have := HML.out; have := HM.out; have := List.length_eraseIdx_le M2 i; omega
    · have HN := Lib.hid (red_end HA.out hm)
      have HRL : Hid ((reducedL l).length = m.length) := by show _ = _; rw [← HN.out]; exact (nm_perm _ m rfl).length_eq
      have HNm := Lib.hid (rname_c A' m c' w2 hml (own_cap ho2) hgm (own_rd ho2).1)
      clear hm
      go_wp2_with (fail)
      refine HNm.out.mono ?_
      rintro e w5 ⟨A5, c5, rfl, ho5, hb5⟩
      go_wp2_with (fail)
      go_ret
      exact ⟨A5, c5, by rw [HRL.out]; rfl, by rw [HRL.out, ← HN.out]; exact own_base ho5 hb02.size, bl_call hb02 hb5⟩
end Go.Proofs.Yteoajadcdjaalaa
