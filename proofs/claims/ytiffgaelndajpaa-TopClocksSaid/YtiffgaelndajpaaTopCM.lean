/- What the top law of clocks asks of jobs. -/
import Derived.Test.YtiffgaelndajpaaRcrw
import Derived.Test.YtiffgaelndajpaaTsr
import Derived.Test.YtiffgaelndajpaaSpd
import Derived.Test.YtiffgaelndajpaaSlk
namespace Go.Proofs.Ytiffgaelndajpaa

theorem topc_facts {l : List T3} (hv : validE l = 0) :
    someG l = decide (0 < l.length) ∧ (cwG l).2.2 = (!canG l) ∧ decide (lateG l ≤ 0) = canG l ∧ decide (0 ≤ slackG l) = canG l ∧ decide ((speedG l).1 ≤ (speedG l).2) = canG l ∧
    (canG l = true → tabE l (tabG l) = 0 ∧ tabE l (urgG l) = 0) ∧ (canG l = false → crwE l (cwG l).1 (cwG l).2.1 = 0) ∧ (∀ tb, tabE l tb = 0 → canG l = true) ∧ validE (turL l) = 0 ∧ canG (turL l) = canG l ∧ turL (turL l) = l := by
  have hl := validE_ok.1 hv
  have hcan : canG l = decide (lateL l ≤ 0) := by rw [canG, if_pos hv]; rfl
  have hu : urgG l = urgL l := by rw [urgG, if_pos hv]
  have ht : turL l = l.map turnJ := by rw [turL, if_pos hv]
  have hvt : validE (l.map turnJ) = 0 := validE_ok.2 (turn_ok hl)
  refine ⟨by rw [someG, if_pos hv], ?_, ?_, ?_, ?_, fun hc => ?_, fun hc => ?_, fun tb h => ?_, by rw [ht]; exact hvt, ?_, ?_⟩
  · rw [can_cw hv, Bool.not_not]
  · rw [hcan, lateG, if_pos hv]
  · rw [hcan, slackG, if_pos hv]
    exact decide_eq_decide.2 (by rw [late_slack hl]; omega)
  · rw [hcan, speedG, if_pos hv]
    refine decide_eq_decide.2 ?_
    have h := speed_crowd hl
    rw [can_crowd hl]
    constructor
    · intro h1
      exact Classical.byContradiction fun h2 => by have := h.2 h2; omega
    · intro h1
      exact Int.not_lt.1 fun h2 => h.1 h2 h1
  · have hc2 := hc
    rw [hcan] at hc
    have := urg_keeps hl (of_decide_eq_true hc)
    refine ⟨?_, by rw [hu]; exact this⟩
    rw [tabG, hc2]; exact this
  · rw [hcan] at hc
    cases h : crowdF l with
    | none => exact absurd ((can_crowd hl).2 h) (of_decide_eq_false hc)
    | some s =>
      obtain ⟨⟨h0, h1, h2⟩, h3⟩ := crowdF_some h
      rw [cwG_some hv h]
      have hs : strE l s.1 s.2 = 0 := strE_zero.2 ⟨hv, h0, h1, h2⟩
      show crwE l s.1 s.2 = 0
      rw [crwE, if_pos hs, if_pos h3]
  · rw [hcan]; exact decide_eq_true (keeps_can h)
  · rw [ht, hcan, canG, if_pos hvt]; exact decide_eq_decide.2 (by rw [late_turn hl])
  · rw [ht, turL, if_pos hvt, turn_turn]
theorem relax_facts {l : List T3} (hv : validE l = 0) {b : Int} (h : movE 0 b l = 0) (hn : 0 < l.length) : validE (movL 0 b l) = 0 ∧ lateG (movL 0 b l) = lateG l - b ∧ (movL 0 b l).length = l.length := by
  obtain ⟨hl, ho, _⟩ := movE_zero h
  have e : movL 0 b l = l.map (addJ 0 b) := by rw [movL, if_pos h]
  have hv2 := validE_ok.2 ho
  refine ⟨by rw [e]; exact hv2, ?_, by rw [e]; simp⟩
  rw [e, lateG, if_pos hv2, lateG, if_pos hv, late_add hl ho hn]; omega
theorem tops_len {l : List T3} (hv : validE l = 0) : (tabG l).length ≤ 1000 ∧ (urgG l).length ≤ 1000 ∧ (turL l).length = l.length ∧ -60 ≤ lateG l ∧ lateG l ≤ 540 := by
  have hl := validE_ok.1 hv
  have hu : (urgL l).length ≤ 1000 := by have := lenU_le hl; rw [urgL, unitsTo_len]; omega
  have hr := lateL_range hl
  refine ⟨?_, by rw [urgG, if_pos hv]; exact hu, by rw [turL, if_pos hv]; simp, by rw [lateG, if_pos hv]; exact hr.1, by rw [lateG, if_pos hv]; exact hr.2⟩
  rw [tabG]; split
  · exact hu
  · simp
end Go.Proofs.Ytiffgaelndajpaa
