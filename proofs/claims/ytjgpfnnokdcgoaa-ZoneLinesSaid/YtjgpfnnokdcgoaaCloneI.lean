/- slices.Clone at ints; a store into a row of the call's own. -/
import Derived.Test.YtjgpfnnokdcgoaaNear3
import Derived.Test.YtjgpfnnokdcgoaaShelfZ
import Derived.Shelf.Slices.Clone
import Derived.Laws.OwnMore
namespace Go.Proofs.Ytjgpfnnokdcgoaa
open Go.RowKit Go.Maps

theorem cloneI_c (A : Option Addr) (p : List Int) (c : Nat) (w : World) (hlen : p.length ≤ 1000) (hr : Rd w A (ints p)) :
    Calls Try.prog 70 #[.slice A p.length c] w fun e w' => ∃ A' c', e = .returned (.slice A' p.length c') ∧ w'.ownsRow w.heap.size 3 1 (.slice A' p.length c') p.length (ints p) ∧ Below w.heap.size w w' := by
  by_cases hp : p = []
  · subst hp
    cases A with
    | none =>
      refine (Any.slices_Clone_int_nil Try.laysClone _ _ _).mono ?_
      rintro e w' ⟨rfl, rfl⟩
      exact ⟨none, 0, rfl, World.ownsRow_nil _ _ _ _, Below.refl _ _⟩
    | some a =>
      refine (Any.slices_Clone_int_zero Try.laysClone a c w).mono ?_
      rintro e w' ⟨v, rfl, ho, _, hb⟩
      obtain ⟨A', c', rfl⟩ := own_form ho
      exact ⟨A', c', rfl, ho, hb⟩
  · obtain ⟨b, o, rfl, _, hc⟩ := hr.at_ (k := 0) (by rw [ints_length]; exact List.length_pos_iff.2 hp)
    refine (Any.slices_Clone_int Try.laysClone b o p.length c p w (Nat.le_refl _) (by omega) (fun j hj => hc j _ (ints_get hj))).mono ?_
    rintro e w' ⟨v, rfl, ho, _, hb⟩
    rw [List.take_length] at ho
    obtain ⟨A', c', rfl⟩ := own_form ho
    exact ⟨A', c', rfl, ho, hb⟩

theorem ints_set (p : List Int) (k : Nat) (x : Int) : ints (p.set k x) = (ints p).set k (.int .i64 x) := by simp [ints, List.map_set]
/-- A number is stored into a row of the call's own. -/
theorem own_putI {w : World} {base c i : Nat} {A : Option Addr} {p : List Int} (h : w.ownsRow base 3 1 (.slice A p.length c) p.length (ints p)) (hi : i < p.length) (x : Int) :
    ∃ g, A = some ⟨g, 0, none⟩ ∧ base ≤ g ∧ w.cell? ⟨g, i, none⟩ = some (.int .i64 (p.getD i 0)) ∧ w.frozen? ⟨g, i, none⟩ = false ∧ (w.setCell ⟨g, i, none⟩ (.int .i64 x)).ownsRow base 3 1 (.slice A (p.set i x).length c) (p.set i x).length (ints (p.set i x)) := by
  have h' := h
  rcases h'.2 with ⟨he, _⟩ | ⟨g, cap, cur, hv, hb, _⟩
  · simp at he; omega
  · simp only [Value.slice.injEq] at hv
    obtain ⟨rfl, _, rfl⟩ := hv
    refine ⟨g, rfl, hb, ?_, h.frozenAt i, ?_⟩
    · obtain ⟨b, o, he, _, hc⟩ := (own_rd h).1.at_ (k := i) (by rw [ints_length]; exact hi)
      injection he with he
      injection he with e1 e2
      subst e1 e2
      have := hc i _ (ints_get hi)
      rwa [Nat.zero_add] at this
    · rw [ints_set, List.length_set]
      exact (h.stored i _).1
end Go.Proofs.Ytjgpfnnokdcgoaa
