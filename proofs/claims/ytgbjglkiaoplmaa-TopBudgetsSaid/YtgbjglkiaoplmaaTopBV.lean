/- The walk of 'TopBudgets', whole. -/
import Derived.Test.YtgbjglkiaoplmaaTopBW
import Derived.Test.YtgbjglkiaoplmaaTopBZ
namespace Go.Proofs.Ytgbjglkiaoplmaa
open Go.RowKit

theorem topBudgets_walk (A : Option Addr) (l : List It) (cap : Nat) (B : Option Addr) (fs : List Fx) (cap2 : Nat) (m e : Int) (w : World) (_hcap : l.length ≤ cap) (_hcap2 : fs.length ≤ cap2) (hr : Rd w A (cellsI l)) (hs : Rd w B (cellsF fs)) (_hm : (Lit.int .i64 m).wf = true) (_he : (Lit.int .i64 e).wf = true) :
    Calls Try.prog 17 #[.slice A l.length cap, .slice B fs.length cap2, .agg #[.int .i64 m, .int .i64 e]] w fun e w' => e = .returned (.bool true) ∧ Below w.heap.size w w' := by
  by_cases hL : 50 < l.length
  · exact topB_long A l cap B fs cap2 m e w (.inl hL) hr hs
  · by_cases hL2 : 50 < fs.length
    · exact topB_long A l cap B fs cap2 m e w (.inr hL2) hr hs
    · by_cases hv : valE l = 0
      · by_cases hp : 0 < (totG l).1
        · exact topB_pos A l cap B fs cap2 m e w hL hL2 hv hp hr hs
        · exact topB_zero A l cap B fs cap2 m e w hL hL2 hv hp hr hs
      · exact topB_bad A l cap B fs cap2 m e w hL hL2 hv hr hs
end Go.Proofs.Ytgbjglkiaoplmaa
