/- A budget without an item: the document's Without. -/
import Derived.Test.YtgbjglkiaoplmaaDel
namespace Go.Proofs.Ytgbjglkiaoplmaa
open Go.RowKit

theorem own_emptyI {w0 w : World} {g : Nat} (hb : w0.heap.size ≤ g) (h : Bx w g 50 #[]) : w.ownsRow w0.heap.size 50 3 (.slice (some ⟨g, 0, none⟩) 0 0) ([] : List It).length (cellsI []) :=
  ⟨rfl, .inr ⟨g, 0, #[], rfl, hb, h, Nat.le_refl _, by decide, rfl, rfl⟩⟩
set_option maxRecDepth 100000 in
set_option maxHeartbeats 4000000 in
theorem rWithout_c (A : Option Addr) (l : List It) (c : Nat) (k : Int) (w : World) (hlen : l.length ≤ 1000) (hc : l.length ≤ c) (hr : Rd w A (cellsI l)) :
    Calls Try.prog 59 #[.slice A l.length c, .int .i64 k] w (OutIt (witL l k) (witE l k) w) := by
  have HV := Lib.hid (rValidate_c A l c w hlen hr)
  have HW := fun w => Lib.hid (within_c k 0 ((l.length : Int) - 1) w)
  have hin : inB k 0 ((l.length : Int) - 1) = (decide (0 ≤ k) && decide (k ≤ (l.length : Int) - 1)) := rfl
  have qs : wrap64 ((l.length : Int) - 1) = (l.length : Int) - 1 := IntWalk.wrap64_in _ ⟨by omega, by omega⟩
  rcases witE_cases l k with ⟨hv, hE, hL⟩ | ⟨hv, h1, hE, hL⟩ | ⟨hv, i, rfl, hil, hE, hL⟩
  · have hv' : (valE l == 0) = false := by rw [beq_eq_false_iff_ne]; exact hv
    rw [hE, hL]
    clear hE hL hin qs
    generalize valE l = ev at *
    go_enter Try.func59, Try.ntmps59
    go_wp2_with (fail)
    refine HV.out.mono ?_
    rintro e w1 ⟨rfl, hb1⟩
    go_wp2_with (fail)
    go_ret2
    exact ⟨none, 0, rfl, World.ownsRow_nil _ _ _ _, hb1⟩
  · have hz : inB k 0 ((l.length : Int) - 1) = false := by
      rw [hin, ← Bool.not_eq_true, Bool.and_eq_true, decide_eq_true_eq, decide_eq_true_eq]; omega
    rw [hE, hL]
    rw [hv] at HV
    rw [hz] at HW
    clear hE hL hv hz h1 hin
    go_enter Try.func59, Try.ntmps59
    go_wp2_with (fail)
    refine HV.out.mono ?_
    rintro e w1 ⟨rfl, hb1⟩
    go_wp2_with (fail)
    refine (HW _).out.mono ?_
    rintro e w2 ⟨rfl, rfl⟩
    go_wp2_with (fail)
    go_ret2
    exact ⟨none, 0, rfl, World.ownsRow_nil _ _ _ _, hb1⟩
  · have hz : inB (i : Int) 0 ((l.length : Int) - 1) = true := by
      rw [hin, Bool.and_eq_true, decide_eq_true_eq, decide_eq_true_eq]; omega
    rw [hE, hL]
    rw [hv] at HV
    rw [hz] at HW
    clear hE hL hv hz hin
    have hil' : (i : Int) < (l.length : Int) := by omega
    go_enter Try.func59, Try.ntmps59
    go_wp2_with (fail)
    refine HV.out.mono ?_
    rintro e w1 ⟨rfl, hb1⟩
    clear HV
    go_wp2_with (fail)
    refine (HW _).out.mono ?_
    rintro e w2 ⟨rfl, rfl⟩
    clear HW qs
    obtain ⟨b, o, rfl, hbl, _⟩ := (hr.later hb1).itm hil
    have hrt : Rd w1 (some ⟨b, o, none⟩) (cellsI (l.take i)) := (hr.later hb1).taken i
    have htl : (l.take i).length = i := by simp; omega
    have hdl : (l.drop (i + 1)).length = l.length - (i + 1) := by simp
    have hXb : Below w1.heap.size w1 ((w1.alloc (.cells #[] 50)).drew) := (bl_alloc (Below.refl _ _) _).drew
    have hBb : Bx ((w1.alloc (.cells #[] 50)).drew) w1.heap.size 50 #[] := (Bx.new w1 _ _).drew
    obtain ⟨A1, c1, W1, E1, o1, g1⟩ := append_items w1.heap.size ((w1.alloc (.cells #[] 50)).drew) _ [] (some ⟨b, o, none⟩) (l.take i) c (own_emptyI (Nat.le_refl _) hBb) (hrt.later hXb) (by simp) (by simp; omega) hXb.size
    have hW1 : Below w1.heap.size w1 W1 := hXb.trans g1
    rw [List.nil_append] at o1
    obtain ⟨o2, ho2e, hrd2⟩ : ∃ o2, (if c = i + 1 then some (⟨b, o, none⟩ : Addr) else some ⟨b, o + (i + 1) * 3, none⟩) = some ⟨b, o2, none⟩ ∧ Rd W1 (some ⟨b, o2, none⟩) (cellsI (l.drop (i + 1))) := by
      by_cases h : c = i + 1
      · exact ⟨o, by rw [if_pos h], .inl (by rw [List.drop_of_length_le (by omega)]; rfl)⟩
      · exact ⟨_, by rw [if_neg h], ((hr.later hb1).later hW1).dropped (i + 1)⟩
    simp only [List.length_nil, Nat.zero_add] at o1
    obtain ⟨A2, c2, W2, E2, o2', g2⟩ := append_items w1.heap.size W1 _ (l.take i) (some ⟨b, o2, none⟩) (l.drop (i + 1)) (c - (i + 1)) o1 hrd2 (by simp; omega) (by simp; omega) hW1.size
    have hW2 : Below w1.heap.size w1 W2 := hW1.trans g2
    rw [← List.eraseIdx_eq_take_drop_succ] at o2'
    have HEL : Hid ((l.eraseIdx i).length = i + (l.length - (i + 1))) := by show _ = _; rw [List.length_eraseIdx, if_pos hil]; omega
    simp only [List.length_nil, Nat.zero_add, htl, hdl] at E1 E2 o2'
    have F1 := Lib.hid E1
    have F2 := Lib.hid E2
    have q8 : IntKind.i64.wrap ((i : Int) + 1) = (i : Int) + 1 := IntWalk.i64_in _ ⟨by omega, by omega⟩
    have q1 : i ≤ c := by omega
    have q2 : (i : Int) ≤ (c : Int) := by omega
    have q3 : (0 : Int) ≤ (i : Int) + 1 := by omega
    have q4 : (i : Int) + 1 ≤ (l.length : Int) := by omega
    have q5 : i + 1 ≤ l.length := by omega
    have q6 : (l.length : Int) ≤ (c : Int) := by omega
    have HO := Lib.hid (own_base o2' hb1.size)
    have hbF := hb1.trans (hW2.mono hb1.size)
    clear E1 E2 hXb hBb o1 g1 g2 hrt htl hdl hrd2 o2'
    go_wp2_with (fail)
    go_region_law (first
      | (refine step_append_run rfl (.tmp 18) (.tmp 21) 22 rfl (.slice (some ⟨w1.heap.size, 0, none⟩) 0 0) (.slice (some ⟨b, o, none⟩) i c) (.slice A1 i c1) W1 (by simp [Act.eval]) (by simp [Act.eval]) F1.out ?_)
      | (refine step_append_run rfl (.tmp 22) (.tmp 26) 22 rfl (.slice A1 i c1) (.slice (some ⟨b, o2, none⟩) (l.length - (i + 1)) (c - (i + 1))) (.slice A2 (i + (l.length - (i + 1))) c2) W2 (by simp [Act.eval]) (by simp [Act.eval, ← ho2e]) F2.out ?_))
    all_goals
      go_wp2_with (fail)
      go_ret2
      exact ⟨A2, c2, by rw [HEL.out]; rfl, by rw [HEL.out]; exact HO.out, hbF⟩
end Go.Proofs.Ytgbjglkiaoplmaa
