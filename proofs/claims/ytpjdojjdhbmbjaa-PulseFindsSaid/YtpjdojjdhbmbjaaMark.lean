/- Functions with a loop over an iterator inside another loop: the marks among their deferred calls. -/
import Derived.Test.YtpjdojjdhbmbjaaMod
import Derived.Sort.LoopGhostIn
namespace Go.Proofs.Ytpjdojjdhbmbjaa
open Go.RowKit

/-- The deferred calls are marks of loops over iterators, each of a block of its own, from lo on and below hi, for which nothing was deferred. -/
def Marks (lo hi : Nat) (X : World) : List Deferred → Prop
  | [] => True
  | d :: ds => (∃ D, d = { target := .collected D, args := #[] } ∧ lo ≤ D ∧ D < hi ∧ X.heap[D]? = some (.deferred (some [])) ∧ ∀ d' ∈ ds, d'.target ≠ .collected D) ∧ Marks lo hi X ds

theorem Marks.keep {lo hi : Nat} {X Y : World} : ∀ {ds : List Deferred}, Marks lo hi X ds → (∀ D, lo ≤ D → D < hi → X.heap[D]? = some (.deferred (some [])) → (∀ d ∈ ds, d.target = .collected D → Y.heap[D]? = some (.deferred (some [])))) → Marks lo hi Y ds
  | [], _, _ => trivial
  | d :: ds, ⟨⟨D, hd, h1, h2, h3, h4⟩, h5⟩, h => ⟨⟨D, hd, h1, h2, h D h1 h2 h3 d (by simp) (by rw [hd]), h4⟩, h5.keep fun D' a b c d' hd e => h D' a b c d' (by simp [hd]) e⟩
theorem Marks.mod {S : Nat → Prop} {lo hi : Nat} {X Y : World} {ds : List Deferred} (h : Marks lo hi X ds) (hm : Mod S X Y) (hn : ∀ D, lo ≤ D → D < hi → ¬ S D) : Marks lo hi Y ds :=
  h.keep fun D h1 h2 h3 _ _ _ => (hm.block D (Array.getElem?_eq_some_iff.1 h3).1 (hn D h1 h2)).trans h3
theorem Marks.call {lo hi : Nat} {X Y : World} {ds : List Deferred} (h : Marks lo hi X ds) (hb : Below X.heap.size X Y) : Marks lo hi Y ds :=
  h.mod (S := fun _ => False) (Mod.of_call hb) (fun _ _ _ h => h)
theorem Marks.more {lo hi hi' : Nat} {X : World} (hh : hi ≤ hi') : ∀ {ds : List Deferred}, Marks lo hi X ds → Marks lo hi' X ds
  | [], _ => trivial
  | _ :: _, ⟨⟨D, hd, h1, h2, h3, h4⟩, h5⟩ => ⟨⟨D, hd, h1, by omega, h3, h4⟩, h5.more hh⟩
theorem Marks.set {lo hi : Nat} {X : World} {ds : List Deferred} (h : Marks lo hi X ds) {g i T : Nat} {cs : Array Value} (hg : Bx X g T cs) (u : Value) : Marks lo hi (X.setCell ⟨g, i, none⟩ u) ds :=
  h.keep fun D _ _ h3 _ _ _ => (Below.heap_setCell X ⟨g, i, none⟩ u D (fun e => by
    subst e
    have h' : X.heap[D]? = some (.cells cs T (0, 0)) := hg
    rw [h'] at h3; cases h3)).trans h3
theorem Marks.lt {lo hi : Nat} {X : World} : ∀ {ds : List Deferred}, Marks lo hi X ds → ∀ d ∈ ds, ∃ D, d.target = .collected D ∧ D < hi
  | _ :: _, ⟨⟨D, h0, _, h2, _, _⟩, h5⟩, d, hd => by
    rcases List.mem_cons.1 hd with rfl | hd
    · exact ⟨D, by rw [h0], h2⟩
    · exact h5.lt d hd
/-- One mark more. -/
theorem Marks.cons {lo hi : Nat} {X : World} {ds : List Deferred} (h : Marks lo hi X ds) {D : Nat} (hlo : lo ≤ D) (hD : hi ≤ D) (hX : X.heap[D]? = some (.deferred (some []))) : Marks lo (D + 1) X ({ target := .collected D, args := #[] } :: ds) :=
  ⟨⟨D, rfl, hlo, by omega, hX, fun d hd e => by
    obtain ⟨D', h1, h2⟩ := h.lt d hd
    rw [h1] at e; injection e with e; omega⟩, h.more (by omega)⟩

theorem leaves_marks {P : Program} {n : Nat} {fn : Func} {tmps : Array Value} {R : Ending → World → Prop} {lo hi : Nat} : ∀ (ds : List Deferred) (X : World), Marks lo hi X ds →
    (∀ Y, Mod (fun k => lo ≤ k) X Y → LeavesInM Fence.wide n P fn tmps R [] .returning Y) → LeavesInM Fence.wide n P fn tmps R ds .returning X
  | [], X, _, h => h X (Mod.refl _ _)
  | d :: ds, X, ⟨⟨D, h0, h1, h2, h3, h4⟩, h5⟩, h => by
    refine ⟨by simp, .inl ⟨D, _, by rw [h0], run_takeDeferred h3, leaves_marks (lo := lo) (hi := hi) ds _ ?_ fun Y hm => h Y (((Mod.refl _ X).putObj (.inr h1) _).trans hm)⟩⟩
    exact h5.keep fun D' _ _ h3' d' hd' e' => (World.putObj_heap_other (fun e => h4 d' hd' (by rw [e', e]))).trans h3'
end Go.Proofs.Ytpjdojjdhbmbjaa
