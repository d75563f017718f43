/- A region that draws its order, whose operations read and whose callees leave what was there, walked once, in the order of the text: Derived/Deep/Quiet.lean's theorem at a class of worlds that the prover names. -/
import Derived.Test.YtjgpfnnokdcgoaaBase
import Derived.BigQuiet
namespace Go.Proofs.Ytjgpfnnokdcgoaa
open Go.RowKit
theorem wp_region_low {P : Program} {C : World → Prop} {id : Nat} {Q : Exit → Act → World → Prop} {a : Act} {w : World} {l : List Oper} (hC : C w.drew) (hm : P.follows .mixedOrders = true) (hB : Region.lexB .any l.toArray = true)
    (h : wpQuiet P l.toArray C (fun a' => ∀ w', C w' → Q .normal a' w') l a) : (Code.region id l.toArray true).wp P Q a w :=
  wp_region_quiet (C := C) hm hB hC (by simpa using h)
theorem quietAt_calls {P : Program} {o : Oper} {a : Act} {C : World → Prop} {W : World} {v : Value} {f : FuncId} {args : Array Value}
    (hx : (execOp a.eval o).run P W = .ok (.enter f args) W) (h : Calls P f args W (fun e w'' => e = .returned v ∧ C w'')) : o.quietAt P a C W v := by
  unfold Oper.quietAt; rw [hx]; exact ⟨rfl, h⟩
end Go.Proofs.Ytjgpfnnokdcgoaa
