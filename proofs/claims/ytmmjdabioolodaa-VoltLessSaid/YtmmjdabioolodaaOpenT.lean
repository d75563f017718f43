/- Arguments of a law that are tables of numbers, opened. -/
import Derived.Test.YtmmjdabioolodaaTab
import Derived.Lib.SmallJoins
import Derived.OpenShut
import Derived.ChangeOld
import Derived.ChangeSame
import Derived.Deep.Matrix
namespace Go.Proofs.Ytmmjdabioolodaa
open Go.ChangeShapes Go.WideShapes Go.ChangeAt Go.RowKit

section
variable {H : Type} {enc : TypeId × Value → H} {P : Program} {w : World} {base : Nat} {held : Bool}
theorem rd_cells (w : World) (x : Addr) (len : Nat) (zs : List Int) (hl : len ≤ zs.length) (hc : ∀ i, i < zs.length → w.cell? (x.add i) = some (.int .i64 (zs.getD i 0))) : Rd w (some x) (ints (zs.take len)) := by
  rcases Nat.eq_zero_or_pos len with h0 | h0
  · subst h0; exact .inl (by simp [ints])
  · obtain ⟨b, off, spot⟩ := x
    have hspot : spot = none := by
      have h1 := hc 0 (by omega)
      simpa [Addr.add] using World.cell?_spot (h1.trans rfl)
    subst hspot
    have hadd : ∀ k, (⟨b, off, none⟩ : Addr).add k = ⟨b, off + k, none⟩ := fun k => by unfold Addr.add; split <;> simp_all
    refine .inr ⟨b, off, rfl, ?_, fun k v hv => ?_⟩
    · have h1 := hc 0 (by omega)
      rw [hadd] at h1
      exact World.block_lt_of_cell? w ⟨b, off + 0, none⟩ h1
    · have hk : k < len := by
        rcases Nat.lt_or_ge k len with h | h
        · exact h
        · rw [List.getElem?_eq_none (by simp; omega)] at hv; cases hv
      have h1 := hc k (by omega)
      rw [hadd] at h1
      rw [h1]
      simp [ints, hk, show k < zs.length by omega] at hv
      rw [← hv]; simp [show k < zs.length by omega]
theorem take_getD (l : List Int) (n k : Nat) (h : k < n) : (l.take n).getD k 0 = l.getD k 0 := by simp [List.getD_eq_getElem?_getD, h]
set_option maxRecDepth 100000 in
/-- A table as an argument. -/
theorem open_table {r : Reach} {b0 : Nat} {v : Value} {d : DataW H} {p : List MemPlace} (hv : Value.okWide Try.prog w r b0 22 v) (h : DataW.Trod enc Try.prog w base (fun _ => true) held 22 v d p) :
    ∃ (A : Option Addr) (R : Rows) (ls : List (List Int)) (cap : Nat), v = .slice A ls.length cap ∧ ls.length ≤ cap ∧ cap ≤ maxLen ∧ (∀ k, k < ls.length → (ls.getD k []).length ≤ (R k).2 ∧ (R k).2 ≤ maxLen) ∧ (∀ k i, k < ls.length → (Lit.int .i64 ((ls.getD k []).getD i 0)).wf = true) ∧ RT w A R ls := by
  obtain ⟨a, len, cap, rfl⟩ := okWide_slice Try.underlying22 hv
  obtain ⟨fuel, hf⟩ := h
  rcases Deep.open_int_rows Try.underlying22 Try.underlying23 Try.underlying3 (by kernel_rfl) (by kernel_rfl) hf with ⟨hcs, _⟩ | ⟨a', len', cap', A, L, C, Z, hcs, _, hl, hm, _, hall⟩
  · simp [Value.cells] at hcs
    obtain ⟨rfl, rfl, rfl⟩ := hcs
    exact ⟨none, fun _ => (none, 0), [], 0, rfl, Nat.le_refl _, by unfold maxLen; omega, fun k hk => by simp at hk, fun k i hk => by simp at hk, ⟨.inl rfl, fun k hk => by simp at hk⟩⟩
  · simp [Value.cells] at hcs
    obtain ⟨rfl, rfl, rfl⟩ := hcs
    have hlen : ∀ k, k < len → ((Z k).take (L k)).length = L k := fun k hk => by
      obtain ⟨_, h1, _, h3, _⟩ := hall k (by omega)
      rw [List.length_take, h3]; omega
    have hget : ∀ k, k < len → ((List.range len).map fun k => (Z k).take (L k)).getD k [] = (Z k).take (L k) := fun k hk => by simp [hk]
    have hsz : ((List.range len).map fun k => (Z k).take (L k)).length = len := by simp
    obtain ⟨R, hR⟩ : ∃ R : Rows, ∀ k, R k = (A k, C k) := ⟨fun k => (A k, C k), fun _ => rfl⟩
    refine ⟨some a', R, (List.range len).map fun k => (Z k).take (L k), cap, by rw [hsz], by rw [hsz]; exact hl, hm, fun k hk => ?_, fun k i hk => ?_, ?_, fun k hk => ?_⟩
    · rw [hsz] at hk
      obtain ⟨_, h1, h2, _⟩ := hall k (by omega)
      rw [hget k hk, hlen k hk, hR]; exact ⟨h1, h2⟩
    · rw [hsz] at hk
      obtain ⟨_, h1, h2, h3, h4, _⟩ := hall k (by omega)
      rw [hget k hk]
      rcases Nat.lt_or_ge i (L k) with h | h
      · rw [take_getD _ _ _ h]
        exact h4 _ (by simp [show i < (Z k).length by omega])
      · rw [List.getD_eq_getElem?_getD, List.getElem?_eq_none (by rw [hlen k hk]; exact h)]
        rfl
    · rcases Nat.eq_zero_or_pos len with h0 | h0
      · subst h0; exact .inl (by simp [rowsV])
      · obtain ⟨b, off, spot⟩ := a'
        have hspot : spot = none := by
          have h1 := (hall 0 (by omega)).1
          simpa [Addr.add] using World.cell?_spot (h1.trans rfl)
        subst hspot
        have hadd : ∀ k, (⟨b, off, none⟩ : Addr).add k = ⟨b, off + k, none⟩ := fun k => by unfold Addr.add; split <;> simp_all
        refine .inr ⟨b, off, rfl, ?_, fun k v hv => ?_⟩
        · have h1 := (hall 0 (by omega)).1
          rw [hadd] at h1
          exact World.block_lt_of_cell? w ⟨b, off + 0, none⟩ h1
        · have hk : k < len := by
            rcases Nat.lt_or_ge k len with h | h
            · exact h
            · rw [List.getElem?_eq_none (by simp [rowsV]; omega)] at hv; cases hv
          have e := rowsV_get (R := R) (ls := (List.range len).map fun k => (Z k).take (L k)) (k := k) (by rw [hsz]; exact hk)
          rw [e, hget k hk, hlen k hk, hR] at hv
          have h1 := (hall k (by omega)).1
          rw [hadd] at h1
          rw [h1, ← hv]
    · rw [hsz] at hk
      rw [hget k hk]
      obtain ⟨_, h1, h2, h3, h4, h5, h6⟩ := hall k (by omega)
      rw [hR]
      show Rd w (A k) _
      cases hA : A k with
      | none =>
        have := h5 hA
        exact .inl (by rw [show L k = 0 by omega]; simp [ints])
      | some a =>
        obtain ⟨_, h7⟩ := h6 a hA
        exact rd_cells w a (L k) (Z k) (by omega) (fun i hi => h7 i (by omega))
end
end Go.Proofs.Ytmmjdabioolodaa
