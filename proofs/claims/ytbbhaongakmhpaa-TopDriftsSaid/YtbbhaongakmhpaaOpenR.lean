/- Arguments of a law that are readings, opened. -/
import Derived.Test.YtbbhaongakmhpaaTri
import Derived.Lib.SmallJoins
import Derived.OpenShut
import Derived.ChangeOld
import Derived.ChangeSame
import Derived.Deep.Slices
import Derived.Deep.Strs
namespace Go.Proofs.Ytbbhaongakmhpaa
open Go.ChangeShapes Go.WideShapes Go.ChangeAt Go.RowKit

section
variable {H : Type} {enc : TypeId × Value → H} {P : Program} {w : World} {base : Nat} {spare : Nat → Bool} {held : Bool}
/-- Three ints in memory. -/
theorem three_ints {t : TypeId} {f0 f1 f2 : Field} {fuel : Nat} {cs : List Value} {x : DataW H × List MemPlace} (hs : P.underlying t = some (.struct #[f0, f1, f2])) (hone : Deep.oneCellFields P #[f0, f1, f2] = true) (hC : P.cellsOf t = 3)
    (i0 : P.underlying f0.type = some (.int .i64)) (i1 : P.underlying f1.type = some (.int .i64)) (i2 : P.underlying f2.type = some (.int .i64))
    (h : DataW.trod enc P w base spare held fuel t cs = some x) : ∃ a b c : Int, cs = [.int .i64 a, .int .i64 b, .int .i64 c] := by
  obtain ⟨y0, y1, y2, n, _, hl, h0, h1, h2⟩ := Deep.trod_struct3 hs h
  obtain ⟨o0, k0⟩ := Deep.hone_of hone 0 f0 rfl
  obtain ⟨o1, k1⟩ := Deep.hone_of hone 1 f1 rfl
  obtain ⟨o2, k2⟩ := Deep.hone_of hone 2 f2 rfl
  rw [hC] at hl
  match cs, hl with
  | [c0, c1, c2], _ =>
    rw [o0, k0] at h0
    rw [o1, k1] at h1
    rw [o2, k2] at h2
    obtain ⟨a, e0, _, _⟩ := DataW.trod_int i0 h0
    obtain ⟨b, e1, _, _⟩ := DataW.trod_int i1 h1
    obtain ⟨c, e2, _, _⟩ := DataW.trod_int i2 h2
    simp at e0 e1 e2
    exact ⟨a, b, c, by rw [e0, e1, e2]⟩

set_option maxRecDepth 100000 in
/-- A list of threes. -/
theorem open_tris {ts te : TypeId} {f0 f1 f2 : Field} {fuel : Nat} {v : Value} {x : DataW H × List MemPlace} (hsl : P.underlying ts = some (.slice te)) (hs : P.underlying te = some (.struct #[f0, f1, f2])) (hone : Deep.oneCellFields P #[f0, f1, f2] = true) (hC : P.cellsOf te = 3)
    (i0 : P.underlying f0.type = some (.int .i64)) (i1 : P.underlying f1.type = some (.int .i64)) (i2 : P.underlying f2.type = some (.int .i64))
    (h : DataW.trod enc P w base spare held fuel ts [v] = some x) :
    ∃ (A : Option Addr) (l : List T3) (cap : Nat), v = .slice A l.length cap ∧ l.length ≤ cap ∧ Rd w A (cellsT l) := by
  rcases Deep.open_slice hsl h with ⟨hcs, _⟩ | ⟨a, len, cap, m, n, D, Pl, hcs, _, hle, _, hm, _, hi⟩
  · simp at hcs
    exact ⟨none, [], 0, hcs, Nat.le_refl _, .inl rfl⟩
  · simp at hcs
    have hlm : len ≤ m := by rw [hm]; split <;> omega
    have hg : ∀ i, i < m → ∃ g : T3, ∀ j, j < 3 → w.cell? (a.add (i * 3 + j)) = [Value.int .i64 g.1, .int .i64 g.2.1, .int .i64 g.2.2][j]? := fun i him => by
      obtain ⟨cs', hc, ht⟩ := hi i him
      obtain ⟨a0, b0, c0, rfl⟩ := three_ints hs hone hC i0 i1 i2 ht
      rw [hC] at hc
      obtain ⟨_, _, hat⟩ := World.cells?_some hc
      exact ⟨(a0, b0, c0), fun j hj => by rw [← Deep.add_add]; exact hat j hj⟩
    obtain ⟨F, hF⟩ : ∃ F : Nat → T3, ∀ i, i < m → ∀ j, j < 3 → w.cell? (a.add (i * 3 + j)) = [Value.int .i64 (F i).1, .int .i64 (F i).2.1, .int .i64 (F i).2.2][j]? := by
      refine ⟨fun i => if h : i < m then Classical.choose (hg i h) else t0, fun i him => ?_⟩
      simp only [him, dif_pos]
      exact Classical.choose_spec (hg i him)
    refine ⟨some a, (List.range len).map F, cap, by simp [hcs], by simpa using hle, ?_⟩
    rcases Nat.eq_zero_or_pos len with h0 | h0
    · subst h0; exact .inl (by simp [cellsT])
    · obtain ⟨b, off, spot⟩ := a
      have hspot : spot = none := by
        have h1 := hF 0 (by omega) 0 (by omega)
        simpa [Addr.add] using World.cell?_spot (h1.trans rfl)
      subst hspot
      have hadd : ∀ k, (⟨b, off, none⟩ : Addr).add k = ⟨b, off + k, none⟩ := fun k => by unfold Addr.add; split <;> simp_all
      have hcell : ∀ k, k < len * 3 → w.cell? ⟨b, off + k, none⟩ = (cellsT ((List.range len).map F))[k]? := fun k hk => by
        have h1 := hF (k / 3) (by omega) (k % 3) (Nat.mod_lt _ (by decide))
        rw [hadd, show k / 3 * 3 + k % 3 = k by omega] at h1
        rw [h1]
        have hk4 : k / 3 < len := by omega
        obtain ⟨c0, c1, c2⟩ := cellsT_get ((List.range len).map F) (k / 3) (by simpa using hk4)
        have hx : ((List.range len).map F).getD (k / 3) t0 = F (k / 3) := by simp [hk4]
        rw [hx] at c0 c1 c2
        have ht4 : k = k / 3 * 3 + k % 3 := by omega
        have hm4 : k % 3 < 3 := Nat.mod_lt _ (by decide)
        conv => rhs; rw [ht4]
        generalize k % 3 = r at *
        match r, hm4 with
        | 0, _ => rw [Nat.add_zero, c0]; rfl
        | 1, _ => rw [c1]; rfl
        | 2, _ => rw [c2]; rfl
      refine .inr ⟨b, off, rfl, ?_, fun k v hv => ?_⟩
      · have h1 := hcell 0 (by omega)
        obtain ⟨c0, _, _⟩ := cellsT_get ((List.range len).map F) 0 (by simpa using h0)
        rw [Nat.zero_mul] at c0
        rw [c0] at h1
        exact World.block_lt_of_cell? w ⟨b, off + 0, none⟩ h1
      · have hk : k < len * 3 := by
          rcases Nat.lt_or_ge k (len * 3) with h | h
          · exact h
          · rw [List.getElem?_eq_none (by simpa using h)] at hv; cases hv
        rw [hcell k hk, hv]
set_option maxRecDepth 100000 in
/-- Readings as an argument. -/
theorem open_rdgs {r : Reach} {b0 : Nat} {v : Value} {d : DataW H} {p : List MemPlace} (hv : Value.okWide Try.prog w r b0 22 v) (h : DataW.Trod enc Try.prog w base spare held 22 v d p) :
    ∃ (A : Option Addr) (l : List T3) (cap : Nat), v = .slice A l.length cap ∧ l.length ≤ cap ∧ Rd w A (cellsT l) := by
  obtain ⟨a, len, cap, rfl⟩ := okWide_slice Try.underlying22 hv
  obtain ⟨fuel, hf⟩ := h
  exact open_tris Try.underlying22 Try.underlying55 (by kernel_rfl) (by kernel_rfl) Try.underlying3 Try.underlying3 Try.underlying3 hf
end
end Go.Proofs.Ytbbhaongakmhpaa
