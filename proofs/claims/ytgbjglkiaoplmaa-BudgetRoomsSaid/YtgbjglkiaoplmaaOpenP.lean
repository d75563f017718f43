/- Arguments of a law that are plans and uses, opened. -/
import Derived.Test.YtgbjglkiaoplmaaOpenI
namespace Go.Proofs.Ytgbjglkiaoplmaa
open Go.ChangeShapes Go.WideShapes Go.ChangeAt Go.RowKit

theorem rd_cells8 (w : World) (x : Addr) (len : Nat) (zs : List Int) (hl : len ≤ zs.length) (hc : ∀ i, i < zs.length → w.cell? (x.add i) = some (.int .i64 (zs.getD i 0))) : Rd w (some x) (ints (zs.take len)) := by
  rcases Nat.eq_zero_or_pos len with h0 | h0
  · subst h0; exact .inl (by simp [ints])
  · obtain ⟨b, off, rfl, hc'⟩ := ints_at hc (by omega)
    refine .inr ⟨b, off, rfl, ?_, fun k v hv => ?_⟩
    · have := World.block_lt_of_cell? w ⟨b, off + 0, none⟩ (hc' 0 (by omega))
      exact this
    · have hk : k < len := by
        rcases Nat.lt_or_ge k len with h | h
        · exact h
        · rw [List.getElem?_eq_none (by simp; omega)] at hv; cases hv
      rw [hc' k (by omega)]
      simp [ints, hk, show k < zs.length by omega] at hv
      rw [← hv]; simp [show k < zs.length by omega]
section
variable {H : Type} {enc : TypeId × Value → H} {w : World} {base : Nat} {held : Bool}
theorem open_list {fuel : Nat} {v : Value} {x : DataW H × List MemPlace} (h : DataW.trod enc Try.prog w base (fun _ => true) held fuel 40 [v] = some x) : ∃ (A : Option Addr) (l : List Int) (cap : Nat), v = .slice A l.length cap ∧ Rd w A (ints l) := by
  rcases open_ints Try.underlying40 Try.underlying3 (by kernel_rfl) h with ⟨hcs, _⟩ | ⟨x, l, c, zs, hcs, _, hl, hm, hz, _, hcell, hwz⟩
  · simp at hcs
    exact ⟨none, [], 0, hcs, .inl rfl⟩
  · simp at hcs
    have hz' : zs.length = c := by simpa using hz
    have hlz : l ≤ zs.length := by omega
    refine ⟨some x, zs.take l, c, ?_, rd_cells8 w x l zs hlz hcell⟩
    rw [hcs]; simp; omega
set_option maxRecDepth 100000 in
theorem open_plan {r : Reach} {b0 : Nat} {v : Value} {d : DataW H} {p : List MemPlace} (hv : Value.okWide Try.prog w r b0 60 v) (h : DataW.Trod enc Try.prog w base (fun _ => true) held 60 v d p) :
    ∃ (m e : Int) (A : Option Addr) (l : List Int) (cap : Nat), v = .agg #[.int .i64 m, .int .i64 e, .slice A l.length cap] ∧ Rd w A (ints l) := by
  obtain ⟨cs, rfl, hsz⟩ := okWide_struct Try.underlying60 hv
  have hC : Try.prog.cellsOf 60 = 3 := by kernel_rfl
  have k0 : Try.prog.cellsOf 40 = 1 := by kernel_rfl
  have k1 : Try.prog.cellsOf 30 = 2 := by kernel_rfl
  obtain ⟨c0, c1, c2, rfl⟩ := Joins.array3 (hsz.trans hC)
  obtain ⟨fuel, hf⟩ := h
  obtain ⟨y0, y1, n, _, _, h0, h1⟩ := trod_struct2 Try.underlying60 hf
  replace h0 : DataW.trod enc Try.prog w base (fun _ => true) held n 30 (([c0, c1, c2].drop 0).take (Try.prog.cellsOf 30)) = some y0 := h0
  replace h1 : DataW.trod enc Try.prog w base (fun _ => true) held n 40 (([c0, c1, c2].drop 2).take (Try.prog.cellsOf 40)) = some y1 := h1
  rw [k1] at h0
  rw [k0] at h1
  obtain ⟨a, b, e⟩ := rat_cells (cs := [c0, c1]) h0
  injection e with e1 e
  injection e with e2 _
  subst e1 e2
  obtain ⟨A, l, cap, rfl, hr⟩ := open_list (v := c2) h1
  exact ⟨a, b, A, l, cap, rfl, hr⟩
set_option maxRecDepth 100000 in
theorem open_use {r : Reach} {b0 : Nat} {v : Value} {d : DataW H} {p : List MemPlace} (hv : Value.okWide Try.prog w r b0 65 v) (h : DataW.Trod enc Try.prog w base (fun _ => true) held 65 v d p) :
    ∃ m e k : Int, v = .agg #[.int .i64 m, .int .i64 e, .int .i64 k] := by
  obtain ⟨cs, rfl, hsz⟩ := okWide_struct Try.underlying65 hv
  have hC : Try.prog.cellsOf 65 = 3 := by kernel_rfl
  have k0 : Try.prog.cellsOf 3 = 1 := by kernel_rfl
  have k1 : Try.prog.cellsOf 30 = 2 := by kernel_rfl
  obtain ⟨c0, c1, c2, rfl⟩ := Joins.array3 (hsz.trans hC)
  obtain ⟨fuel, hf⟩ := h
  obtain ⟨y0, y1, n, _, _, h0, h1⟩ := trod_struct2 Try.underlying65 hf
  replace h0 : DataW.trod enc Try.prog w base (fun _ => true) held n 30 (([c0, c1, c2].drop 0).take (Try.prog.cellsOf 30)) = some y0 := h0
  replace h1 : DataW.trod enc Try.prog w base (fun _ => true) held n 3 (([c0, c1, c2].drop 2).take (Try.prog.cellsOf 3)) = some y1 := h1
  rw [k1] at h0
  rw [k0] at h1
  obtain ⟨a, b, e⟩ := rat_cells (cs := [c0, c1]) h0
  injection e with e1 e
  injection e with e2 _
  subst e1 e2
  obtain ⟨k, rfl⟩ := one_int (c := c2) h1
  exact ⟨a, b, k, rfl⟩
end
end Go.Proofs.Ytgbjglkiaoplmaa
