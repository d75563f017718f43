/- The document's before and without. -/
import Derived.Test.YteoajadcdjaalaaFst
import Derived.Test.YteoajadcdjaalaaKnownG
namespace Go.Proofs.Yteoajadcdjaalaa
open Go.RowKit

set_option maxHeartbeats 1000000 in
theorem before_c (k a b t k' a' b' t' : Int) (w : World) : Calls Try.prog 91 #[.agg #[.int .i64 k, .int .i64 a, .int .i64 b, .int .i64 t], .agg #[.int .i64 k', .int .i64 a', .int .i64 b', .int .i64 t']] w
    fun e w' => e = .returned (.bool (ltG (k, a, b, t) (k', a', b', t'))) ∧ Below w.heap.size w w' := by
  have HL := Lib.hid (ltG_iff (k, a, b, t) (k', a', b', t'))
  generalize ltG (k, a, b, t) (k', a', b', t') = r at *
  go_enter Try.func91, Try.ntmps91
  go_wp2
  all_goals
    go_ret
    refine ⟨ret_b ?_, bl_alloc (bl_alloc (Below.refl _ _) _) _⟩
    rw [Bool.eq_iff_iff]
    have h := HL.out
    rw [h]
    simp at *
    omega

theorem rd_upto {w : World} {b o : Nat} {l : List G} (n : Nat) (h : Rd w (some ⟨b, o, none⟩) (cellsG l)) : Rd w (some ⟨b, o, none⟩) (cellsG (l.take n)) := by
  rcases h with h | ⟨b', o', he, hb, hc⟩
  · left
    have : l = [] := by cases l with | nil => rfl | cons x t => simp [cellsG] at h
    subst this; simp [cellsG]
  · refine .inr ⟨b', o', he, hb, fun j v hv => hc j v ?_⟩
    have e : cellsG l = cellsG (l.take n) ++ cellsG (l.drop n) := by rw [← cellsG_append, List.take_append_drop]
    rw [e, List.getElem?_append_left (List.getElem?_eq_some_iff.1 hv).1]
    exact hv
theorem rd_from {w : World} {b o : Nat} {l : List G} (n : Nat) (h : Rd w (some ⟨b, o, none⟩) (cellsG l)) : Rd w (some ⟨b, o + n * 4, none⟩) (cellsG (l.drop n)) := by
  rcases h with h | ⟨b', o', he, hb, hc⟩
  · left
    have : l = [] := by cases l with | nil => rfl | cons x t => simp [cellsG] at h
    subst this; simp [cellsG]
  · injection he with he
    injection he with e1 e2
    subst e1 e2
    rcases Nat.lt_or_ge l.length n with hn | hn
    · left; rw [List.drop_of_length_le (by omega)]; rfl
    · refine .inr ⟨b, o + n * 4, rfl, hb, fun j v hv => ?_⟩
      have e : cellsG l = cellsG (l.take n) ++ cellsG (l.drop n) := by rw [← cellsG_append, List.take_append_drop]
      have hl : (cellsG (l.take n)).length = n * 4 := by rw [cellsG_length, List.length_take, Nat.min_eq_left hn]
      have := hc (n * 4 + j) v (by rw [e, List.getElem?_append_right (by omega), hl, Nat.add_sub_cancel_left]; exact hv)
      rwa [← Nat.add_assoc] at this

set_option maxRecDepth 100000 in
/-- append of the cells of a list of gates to a row of the call's own. -/
theorem run_append_gates {w : World} {base n : Nat} {v : Value} {m : List G} (hown : w.ownsRow base 23 4 v n (cellsG m)) (hbase : base ≤ w.heap.size) (b o c : Nat) (q : List G) (hr : Rd w (some ⟨b, o, none⟩) (cellsG q)) (_hm : m.length = n) (h : n + q.length ≤ 1000000) :
    ∃ A' c' w', (∀ ty, (Builtin.append_ #[29, 29] ty #[v, .slice (some ⟨b, o, none⟩) q.length c]).run Try.prog w = .ok (.slice A' (n + q.length) c') w') ∧ w'.ownsRow base 23 4 (.slice A' (n + q.length) c') (n + q.length) (cellsG (m ++ q)) ∧ w.grownBy w' v.ownBlock := by
  obtain ⟨i0, hi, hz0, hz1, hz2⟩ := info_parts gate_info
  have hrun := run_append_own (P := Try.prog) w base 29 0 23 i0 _ 4 32 Try.underlying29 hi hz0 hz1 hz2 rfl (by decide) v n _ hown ⟨b, o, none⟩ q.length c (cellsG q) (by simp) (fun j u hj => by
    have hadd : (⟨b, o, none⟩ : Addr).add j = ⟨b, o + j, none⟩ := by unfold Addr.add; split <;> simp_all
    rw [hadd]
    rcases hr with h0 | ⟨b', o', he, _, hc⟩
    · rw [h0] at hj; simp at hj
    · injection he with he
      injection he with e1 e2
      subst e1 e2
      exact hc j u hj) (cellsG_one q) (by unfold maxLen; omega) (by omega) hbase
  obtain ⟨v', w', h1, h2, h3, _⟩ := hrun
  obtain ⟨A', c', rfl⟩ := own_form h2
  exact ⟨A', c', w', fun ty => h1, by rw [cellsG_append]; exact h2, h3⟩

set_option maxRecDepth 100000 in
set_option maxHeartbeats 2000000 in
theorem without_c (A : Option Addr) (l : List G) (c i : Nat) (w : World) (hlen : l.length ≤ 1000) (hc : l.length ≤ c) (hi : i < l.length) (hr : Rd w A (cellsG l)) :
    Calls Try.prog 70 #[.slice A l.length c, .int .i64 i] w fun e w' => ∃ A' c', e = .returned (.slice A' (l.eraseIdx i).length c') ∧ w'.ownsRow w.heap.size 23 4 (.slice A' (l.eraseIdx i).length c') (l.eraseIdx i).length (cellsG (l.eraseIdx i)) ∧ Below w.heap.size w w' := by
  obtain ⟨b, o, rfl, hbl, _⟩ := hr.gate hi
  have ho0 : (w.alloc (.cells #[] 23)).drew.ownsRow w.heap.size 23 4 (.slice (some ⟨w.heap.size, 0, none⟩) 0 0) 0 (cellsG []) := own_call (World.ownsRow_made (e := 23) (size := 4) w #[] 0 (Nat.le_refl _) (by decide) rfl) (Below.refl _ _).drew
  have hb1 : Below w.heap.size w (w.alloc (.cells #[] 23)).drew := (bl_alloc (Below.refl _ _) _).drew
  obtain ⟨A1, c1, w1, hrun1, ho1, hg1⟩ := run_append_gates ho0 hb1.size b o c (l.take i) (rd_upto i (hr.later hb1)) rfl (by simp; omega)
  have hb2 : Below w.heap.size w w1 := hb1.trans (grown_below ho0 hg1 hb1.size)
  have hti : (l.take i).length = i := by simp; omega
  obtain ⟨o2, ho2e, hrd2⟩ : ∃ o2, (if c = i + 1 then some (⟨b, o, none⟩ : Addr) else some ⟨b, o + (i + 1) * 4, none⟩) = some ⟨b, o2, none⟩ ∧ Rd w1 (some ⟨b, o2, none⟩) (cellsG (l.drop (i + 1))) := by
    by_cases h : c = i + 1
    · exact ⟨o, by rw [if_pos h], .inl (by rw [List.drop_of_length_le (by omega)]; rfl)⟩
    · exact ⟨_, by rw [if_neg h], rd_from (i + 1) (hr.later hb2)⟩
  obtain ⟨A2, c2, w2, hrun2, ho2, hg2⟩ := run_append_gates ho1 hb2.size b o2 (c - (i + 1)) (l.drop (i + 1)) hrd2 (by simp) (by simp; omega)
  have hb3 : Below w.heap.size w w2 := hb2.trans (grown_below ho1 hg2 hb2.size)
  have hdl : (l.drop (i + 1)).length = l.length - (i + 1) := by simp
  have hee : [] ++ l.take i ++ l.drop (i + 1) = l.eraseIdx i := by rw [List.nil_append, List.eraseIdx_eq_take_drop_succ]
  have hel : (l.eraseIdx i).length = 0 + i + (l.length - (i + 1)) := by rw [List.length_eraseIdx, if_pos hi]; omega
  rw [hee] at ho2
  rw [hti, hdl] at ho2 hrun2
  rw [hti] at hrun1
  have E1 := Lib.hid hrun1
  have E2 := Lib.hid hrun2
  have HO : Hid (w2.ownsRow w.heap.size 23 4 (.slice A2 (l.eraseIdx i).length c2) (l.eraseIdx i).length (cellsG (l.eraseIdx i))) := by
    show World.ownsRow _ _ _ _ _ _ _
    rw [hel]; exact ho2
  have HEL : Hid ((l.eraseIdx i).length = i + (l.length - (i + 1))) := by show _ = _; omega
  have q1 : i ≤ c := by omega
  have q2 : (i : Int) ≤ (c : Int) := by omega
  have q3 : (0 : Int) ≤ (i : Int) + 1 := by omega
  have q4 : (i : Int) + 1 ≤ (l.length : Int) := by omega
  have q5 : i + 1 ≤ l.length := by omega
  have q6 : (l.length : Int) ≤ (c : Int) := by omega
  have q7 : i ≤ l.length := by omega
  have q8 : IntKind.i64.wrap ((i : Int) + 1) = (i : Int) + 1 := by simp [IntKind.wrap, IntKind.bits, IntKind.signed]; omega
  clear hrun1 hrun2 ho2 hel ho0 ho1 hg1 hg2 hti hdl hee hrd2
  go_enter Try.func70, Try.ntmps70
  go_wp2_with (fail)
  go_region_law (first
    | (refine step_append_run rfl (.tmp 5) (.tmp 8) 29 rfl (.slice (some ⟨w.heap.size, 0, none⟩) 0 0) (.slice (some ⟨b, o, none⟩) i c) (.slice A1 (0 + i) c1) w1 (by simp [Act.eval]) (by simp [Act.eval]) E1.out ?_)
    | (refine step_append_run rfl (.tmp 9) (.tmp 13) 29 rfl (.slice A1 (0 + i) c1) (.slice (some ⟨b, o2, none⟩) (l.length - (i + 1)) (c - (i + 1))) (.slice A2 (0 + i + (l.length - (i + 1))) c2) w2 (by simp [Act.eval]) (by simp [Act.eval, ← ho2e]) E2.out ?_))
  all_goals
    go_wp2_with (fail)
    go_ret
    exact ⟨A2, c2, by rw [HEL.out]; rfl, HO.out, hb3⟩
end Go.Proofs.Yteoajadcdjaalaa
