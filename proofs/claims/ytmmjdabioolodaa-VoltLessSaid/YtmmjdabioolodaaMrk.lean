/- A function that ranges over an iterator in each round of a loop: the marks that it leaves with. -/
import Derived.Test.YtmmjdabioolodaaSmo
namespace Go.Proofs.Ytmmjdabioolodaa
open Go.RowKit

/-- Each of the deferred calls is a mark, whose block from lo on holds no call. -/
def Marks (lo : Nat) : List Deferred → World → Prop
  | [], _ => True
  | d :: ds, w => (∃ D, d.target = .collected D ∧ lo ≤ D ∧ w.heap[D]? = some (.deferred (some [])) ∧ ∀ d' ∈ ds, d'.target ≠ .collected D) ∧ Marks lo ds w
theorem Marks.keep {lo : Nat} {w w' : World} : ∀ {ds : List Deferred}, Marks lo ds w → (∀ D, (∃ d ∈ ds, d.target = .collected D) → w.heap[D]? = some (.deferred (some [])) → w'.heap[D]? = some (.deferred (some []))) → Marks lo ds w'
  | [], _, _ => trivial
  | d :: ds, h, hk => by
    obtain ⟨⟨D, h1, h2, h3, h4⟩, h5⟩ := h
    exact ⟨⟨D, h1, h2, hk D ⟨d, by simp, h1⟩ h3, h4⟩, Marks.keep h5 fun D' ⟨d', hd', e⟩ h => hk D' ⟨d', by simp [hd'], e⟩ h⟩
theorem Marks.call {lo : Nat} {w w' : World} {ds : List Deferred} (h : Marks lo ds w) (hb : Below w.heap.size w w') : Marks lo ds w' :=
  h.keep fun D _ hD => (hb.block D (Array.getElem?_eq_some_iff.1 hD).1).trans hD
theorem Marks.set {lo : Nat} {w : World} {ds : List Deferred} (h : Marks lo ds w) {g i : Nat} {T : TypeId} {cs : Array Value} (hx : Bx w g T cs) (u : Value) : Marks lo ds (w.setCell ⟨g, i, none⟩ u) :=
  h.keep fun D _ hD => (Below.heap_setCell w ⟨g, i, none⟩ u D (fun e => by
    have e' : D = g := e
    subst e'
    have h1 : w.heap[D]? = some (.cells cs T (0, 0)) := hx
    rw [h1] at hD; cases hD)).trans hD
theorem Marks.lt {lo : Nat} {w : World} : ∀ {ds : List Deferred}, Marks lo ds w → ∀ d ∈ ds, ∃ D, d.target = .collected D ∧ D < w.heap.size
  | [], _, d, hd => by simp at hd
  | d :: ds, h, d', hd' => by
    obtain ⟨⟨D, h1, h2, h3, h4⟩, h5⟩ := h
    rcases List.mem_cons.1 hd' with rfl | h'
    · exact ⟨D, h1, (Array.getElem?_eq_some_iff.1 h3).1⟩
    · exact Marks.lt h5 d' h'
theorem Marks.cons {lo D : Nat} {w : World} {ds : List Deferred} {args : Array Value} (h : Marks lo ds w) (hlo : lo ≤ D) (hD : w.heap[D]? = some (.deferred (some []))) (hn : ∀ d ∈ ds, ∃ D', d.target = .collected D' ∧ D' < D) : Marks lo ({ target := .collected D, args := args } :: ds) w :=
  ⟨⟨D, rfl, hlo, hD, fun d hd e => by
    obtain ⟨D', e1, e2⟩ := hn d hd
    rw [e1] at e
    have : D' = D := Target.collected.inj e
    omega⟩, h⟩
/-- Leaving with marks: their blocks are shut, and nothing else changes. -/
theorem leaves_marks {F : Fence} {n : Nat} {P : Program} {fn : Func} {tmps : Array Value} {R : Ending → World → Prop} {lo : Nat} : ∀ (ds : List Deferred) (w : World), Marks lo ds w →
    (∀ w', Mod (fun k => lo ≤ k ∧ ∃ r, w.heap[k]? = some (.deferred r)) w w' → ∃ v, (results fn tmps).run P w' = .ok v w' ∧ R (.returned v) w') → LeavesInM F n P fn tmps R ds .returning w
  | [], w, _, h => h w (Mod.refl _ _)
  | d :: ds, w, hm, h => by
    obtain ⟨⟨D, h1, h2, h3, h4⟩, h5⟩ := hm
    have hlt := (Array.getElem?_eq_some_iff.1 h3).1
    have hmd : Mod (fun k => lo ≤ k ∧ ∃ r, w.heap[k]? = some (.deferred r)) w (w.putObj D (.deferred none)) := (Mod.refl _ w).putObj (.inr ⟨h2, _, h3⟩) _
    refine ⟨by simp, .inl ⟨D, w.putObj D (.deferred none), h1, run_takeDeferred h3, leaves_marks ds _ (h5.keep fun D' ⟨d', hd', e⟩ hD' => ?_) fun w' hw' => h w' (hmd.trans (hw'.weak' fun k hk hs => ⟨hs.1, ?_⟩))⟩⟩
    · exact (World.putObj_heap_other (fun e' => h4 d' hd' (by rw [e, e']))).trans hD'
    · obtain ⟨r, hr⟩ := hs.2
      by_cases e : k = D
      · subst e; exact ⟨_, h3⟩
      · rw [World.putObj_heap_other e] at hr; exact ⟨r, hr⟩
theorem own_def {w w' : World} {lo base size n : Nat} {e : TypeId} {v : Value} {xs : List Value} (h : w.ownsRow base e size v n xs) (hm : Mod (fun k => lo ≤ k ∧ ∃ r, w.heap[k]? = some (.deferred r)) w w') : w'.ownsRow base e size v n xs :=
  own_mod h hm (fun k hk ⟨_, r, hr⟩ => by
    rcases h.2 with ⟨rfl, _⟩ | ⟨g', cap', cur', rfl, _, hg', _⟩
    · cases hk
    · have e1 : g' = k := Option.some.inj hk
      subst e1
      rw [hr] at hg'; cases hg')
theorem CtO.def_ {w w' : World} {lo : Nat} {V : Rows} {S : Nat → Rows} {cs : List Crs} (h : CtO w V S cs) (hm : Mod (fun k => lo ≤ k ∧ ∃ r, w.heap[k]? = some (.deferred r)) w w') : CtO w' V S cs :=
  ⟨fun i hi => own_def (h.top i hi) hm, fun i k hi hk => own_def (h.row i k hi hk) hm⟩
theorem bx_def {w w' : World} {lo g : Nat} {T : TypeId} {cs : Array Value} (h : Bx w g T cs) (hm : Mod (fun k => lo ≤ k ∧ ∃ r, w.heap[k]? = some (.deferred r)) w w') : Bx w' g T cs :=
  h.mod hm (fun ⟨_, r, hr⟩ => by
    have h1 : w.heap[g]? = some (.cells cs T (0, 0)) := h
    rw [h1] at hr; cases hr)
theorem results_cell_tmp2 {P : Program} {fn : Func} {p q : Tmp} {ty : TypeId} (h : fn.results = #[.cell p ty, .tmp q]) (tmps : Array Value) (w : World) (g : Nat) (t : TypeId) (cs : Array Value) (fr : Nat × Nat) (d : TypeDesc) (x : Value)
    (hp : tmps.getD p undef = .pointer (some ⟨g, 0, none⟩)) (hq : tmps.getD q undef = x) (hg : w.heap[g]? = some (.cells cs t fr))
    (hu : P.underlying ty = some d) (hd : (match d with | .struct _ | .array _ _ => true | _ => false) = true) (hi : (P.info? ty).map (·.size) = some cs.size) :
    (results fn tmps).run P w = .ok (.tuple #[.agg cs, x]) w := by
  have hp' : tmps[p]?.getD undef = .pointer (some ⟨g, 0, none⟩) := by simpa using hp
  have hq' : tmps[q]?.getD undef = x := by simpa using hq
  simp [results, h, hp', hq', asAddr, run_loadVar_row w g t ty cs fr d hg hu hd hi]
end Go.Proofs.Ytmmjdabioolodaa
