/- What the top law of drifts calls. -/
import Derived.Test.YtbbhaongakmhpaaKnownD
import Derived.Test.YtbbhaongakmhpaaOpp
import Derived.Test.YtbbhaongakmhpaaCht
import Derived.Test.YtbbhaongakmhpaaCkc
import Derived.Test.YtbbhaongakmhpaaSte
import Derived.Test.YtbbhaongakmhpaaTgt
import Derived.Test.YtbbhaongakmhpaaInsR
namespace Go.Proofs.Ytbbhaongakmhpaa
open Go.RowKit

theorem idx2 (a b : Value) (w : World) : (Instr.index 65 (.agg #[a, b]) (.int .i64 0)).run Try.prog w = .ok a w ∧ (Instr.index 65 (.agg #[a, b]) (.int .i64 1)).run Try.prog w = .ok b w := ⟨by kernel_rfl, by kernel_rfl⟩
theorem ste_top : steG [(0, 0, 1), (4, 9, 10)] = (2, 1) ∧ validE [(0, 0, 1), (4, 9, 10)] = 0 := by decide
theorem top_slow {l : List T3} {r : Int} (hE : ratE l r = 0) : agreeB l r = ((sloG l).2 && decide ((sloG l).1 ≤ r)) := by
  obtain ⟨ho, h0, h9⟩ := ratE_ok.1 hE
  rw [sloG, if_pos (validE_ok.2 ho)]
  exact slow_agree ho h0 h9
theorem top_clash {l : List T3} {r : Int} (hE : ratE l r = 0) (ha : agreeB l r = false) : ∃ i k : Nat, clsG l r = some (i, k) ∧ chcE l r i k = 0 := by
  obtain ⟨ho, h0, h9⟩ := ratE_ok.1 hE
  obtain ⟨i, k, hp⟩ := agreeB_some.1 ha
  have hq := hp
  unfold pairO at hq
  obtain ⟨h1, h2, h3, h4, h5⟩ := pairF_some hq
  refine ⟨i, k, by rw [clsG, if_pos hE, hp], ?_⟩
  have hc : cl l r i k = true := by first | exact h5 | exact h4
  unfold chcE
  rw [if_pos (validE_ok.2 ho), if_pos ⟨oneB_z.2 (by omega), oneB_z.2 (by omega)⟩, if_pos (inB_z.2 ⟨h0, h9⟩), Int.toNat_natCast, Int.toNat_natCast, if_pos hc]
end Go.Proofs.Ytbbhaongakmhpaa
