/- A table without its last row. -/
import Derived.Test.YtmmjdabioolodaaVal
namespace Go.Proofs.Ytmmjdabioolodaa
open Go.RowKit

theorem cut_run (g o n c : Nat) (h : n + 1 ≤ c) (_hn : n ≤ 10000) (w : World) : (Instr.slice 22 (.slice (some ⟨g, o, none⟩) (n + 1) c) none (some (.int .i64 (n : Int))) (some (.int .i64 (n : Int)))).run Try.prog w = .ok (.slice (some ⟨g, o, none⟩) n n) w := by
  have q1 : (n : Int) ≤ (c : Int) := by omega
  have q2 : (n : Int) ≤ (n : Int) + 1 := by omega
  go_simp
theorem rt_take {w : World} {A : Option Addr} {R : Rows} {ls : List (List Int)} (h : RT w A R ls) (n : Nat) : RT w A R (ls.take n) := by
  have hg : ∀ k, k < (ls.take n).length → (ls.take n).getD k [] = ls.getD k [] ∧ k < ls.length := fun k hk => by
    have hk' : k < n ∧ k < ls.length := by have := hk; rw [List.length_take] at this; omega
    exact ⟨by simp [List.getD_eq_getElem?_getD, hk'.1], hk'.2⟩
  refine ⟨?_, fun k hk => by rw [(hg k hk).1]; exact h.row k (hg k hk).2⟩
  rcases Nat.eq_zero_or_pos (ls.take n).length with h0 | h0
  · exact .inl (List.eq_nil_of_length_eq_zero (by simpa using h0))
  · have hp := (hg 0 h0).2
    obtain ⟨b, o, rfl, hlt, _⟩ := h.at_ hp
    refine .inr ⟨b, o, rfl, hlt, fun k v hv => ?_⟩
    have hk : k < (ls.take n).length := by
      rcases Nat.lt_or_ge k (ls.take n).length with hk | hk
      · exact hk
      · rw [List.getElem?_eq_none (by simpa using hk)] at hv; cases hv
    rw [rowsV_get hk, (hg k hk).1] at hv
    obtain ⟨b', o', he, _, hc⟩ := h.at_ (hg k hk).2
    injection he with he
    injection he with e1 e2
    subst e1 e2
    rw [hc, ← hv]
end Go.Proofs.Ytmmjdabioolodaa
