/- Rows that a call has made: what they read as. Lists of points as cells. -/
import Derived.Test.YtgbjglkiaoplmaaMod
namespace Go.Proofs.Ytgbjglkiaoplmaa
open Go.RowKit

theorem own_form {w : World} {base e size n : Nat} {v : Value} {xs : List Value} (h : w.ownsRow base e size v n xs) : ∃ A c, v = .slice A n c := by
  rcases h.2 with ⟨rfl, rfl⟩ | ⟨g, cap, cur, rfl, _⟩
  · exact ⟨none, 0, rfl⟩
  · exact ⟨_, _, rfl⟩
theorem own_rd {w : World} {base e size n c : Nat} {A : Option Addr} {xs : List Value} (h : w.ownsRow base e size (.slice A n c) n xs) : Rd w A xs ∧ ∀ a, A = some a → base ≤ a.block := by
  rcases h.2 with ⟨h0, rfl⟩ | ⟨g, cap, cur, hv, hb, hg, hn, _, hs, ht⟩
  · injection h0 with h1; subst h1
    refine ⟨.inl (List.eq_nil_of_length_eq_zero (by simpa using h.1)), fun a e => by cases e⟩
  · injection hv with h1 _ h2; subst h1 h2
    refine ⟨.inr ⟨g, 0, rfl, (Array.getElem?_eq_some_iff.1 hg).1, fun k v hk => ?_⟩, fun a e => by cases e; exact hb⟩
    have := h.cells (g := g) rfl k v hk
    rw [Nat.zero_add]
    have hadd : (⟨g, 0, none⟩ : Addr).add k = ⟨g, k, none⟩ := by unfold Addr.add; split <;> simp_all
    rwa [hadd] at this
theorem own_mod {S : Nat → Prop} {w w' : World} {base e size n : Nat} {v : Value} {xs : List Value} (h : w.ownsRow base e size v n xs) (hm : Mod S w w') (hn : ∀ k, v.ownBlock = some k → ¬ S k) : w'.ownsRow base e size v n xs := by
  refine ⟨h.1, ?_⟩
  rcases h.2 with hv | ⟨g, cap, cur, rfl, hb, hg, rest⟩
  · exact .inl hv
  · exact .inr ⟨g, cap, cur, rfl, hb, (hm.block g (Array.getElem?_eq_some_iff.1 hg).1 (hn g rfl)).trans hg, rest⟩
theorem own_call {w w' : World} {base e size n : Nat} {v : Value} {xs : List Value} (h : w.ownsRow base e size v n xs) (hb : Below w.heap.size w w') : w'.ownsRow base e size v n xs :=
  own_mod (S := fun _ => False) h (Mod.of_call hb) (fun _ _ h => h)
/-- What a new row is grown by lies beyond what was there. -/
theorem grown_below {w w' : World} {base e size n : Nat} {v : Value} {xs : List Value} (h : w.ownsRow base e size v n xs) (hg : w.grownBy w' v.ownBlock) (hb : base ≤ w.heap.size) : Below base w w' :=
  (Below.refl base w).grown hg hb (fun k e => (h.lt k e).1)

/-- The cells of a list of points. -/
def cellsP (l : List (Int × Int)) : List Value := l.flatMap fun a => [.int .i64 a.1, .int .i64 a.2]
@[simp] theorem cellsP_length (l : List (Int × Int)) : (cellsP l).length = l.length * 2 := by
  induction l with
  | nil => rfl
  | cons a t ih => simp only [cellsP, List.flatMap_cons, List.length_append, List.length_cons, List.length_nil] at ih ⊢; omega
theorem cellsP_snoc (l : List (Int × Int)) (a : Int × Int) : cellsP (l ++ [a]) = cellsP l ++ [.int .i64 a.1, .int .i64 a.2] := by simp [cellsP]
theorem cellsP_get : ∀ (l : List (Int × Int)) (k : Nat), k < l.length → (cellsP l)[k * 2]? = some (.int .i64 (l.getD k (0, 0)).1) ∧ (cellsP l)[k * 2 + 1]? = some (.int .i64 (l.getD k (0, 0)).2)
  | a :: t, 0, _ => by simp [cellsP]
  | a :: t, k + 1, h => by
    have := cellsP_get t k (by simpa using h)
    rw [Nat.succ_mul]
    simpa [cellsP] using this
end Go.Proofs.Ytgbjglkiaoplmaa
