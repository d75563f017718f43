/- Arguments of a law that are items, fixes, plans and uses, opened. -/
import Derived.Test.YtgbjglkiaoplmaaFix
import Derived.Lib.SmallJoins
import Derived.OpenShut
import Derived.ChangeOld
import Derived.ChangeSame
import Derived.Deep.Slices
namespace Go.Proofs.Ytgbjglkiaoplmaa
open Go.ChangeShapes Go.WideShapes Go.ChangeAt Go.RowKit

theorem flat_get {β : Type} {cells : β → List Value} {s : Nat} (hl : ∀ b, (cells b).length = s) : ∀ (l : List β) (k r : Nat) (b : β), r < s → l[k]? = some b → (l.flatMap cells)[k * s + r]? = (cells b)[r]?
  | [], k, r, b, _, h => by simp at h
  | a :: t, 0, r, b, hr, h => by
    have e : a = b := by simpa using h
    subst e
    rw [List.flatMap_cons, Nat.zero_mul, Nat.zero_add, List.getElem?_append_left (by rw [hl]; exact hr)]
  | a :: t, k + 1, r, b, hr, h => by
    have ih := flat_get hl t k r b hr (by simpa using h)
    have e : (k + 1) * s + r = s + (k * s + r) := by rw [Nat.succ_mul]; omega
    rw [List.flatMap_cons, e, List.getElem?_append_right (by rw [hl]; omega), hl, Nat.add_sub_cancel_left, ih]
theorem flat_len {β : Type} {cells : β → List Value} {s : Nat} (hl : ∀ b, (cells b).length = s) : ∀ (l : List β), (l.flatMap cells).length = l.length * s
  | [] => by simp
  | a :: t => by rw [List.flatMap_cons, List.length_append, hl, flat_len hl t, List.length_cons, Nat.succ_mul]; omega
section
variable {H : Type} {enc : TypeId × Value → H} {w : World} {base : Nat} {spare : Nat → Bool} {held : Bool}
set_option maxRecDepth 100000 in
/-- A list of things, each of s cells. -/
theorem open_rows {P : Program} {β : Type} (cells : β → List Value) (s : Nat) (hs : 0 < s) (hlen : ∀ b, (cells b).length = s) {ts te : TypeId} {fuel : Nat} {v : Value} {x : DataW H × List MemPlace} (hsl : P.underlying ts = some (.slice te)) (hC : P.cellsOf te = s) (d0 : β)
    (hel : ∀ fuel cs x, DataW.trod enc P w base spare held fuel te cs = some x → ∃ b, cs = cells b)
    (h : DataW.trod enc P w base spare held fuel ts [v] = some x) :
    ∃ (A : Option Addr) (l : List β) (cap : Nat), v = .slice A l.length cap ∧ l.length ≤ cap ∧ Rd w A (l.flatMap cells) := by
  rcases Deep.open_slice hsl h with ⟨hcs, _⟩ | ⟨a, len, cap, m, n, D, Pl, hcs, _, hle, _, hm, _, hi⟩
  · simp at hcs
    exact ⟨none, [], 0, hcs, Nat.le_refl _, .inl rfl⟩
  · simp at hcs
    have hlm : len ≤ m := by rw [hm]; split <;> omega
    have hg : ∀ i, i < m → ∃ g : β, ∀ j, j < s → w.cell? (a.add (i * s + j)) = (cells g)[j]? := fun i him => by
      obtain ⟨cs', hc, ht⟩ := hi i him
      obtain ⟨b, rfl⟩ := hel _ _ _ ht
      rw [hC] at hc
      obtain ⟨_, _, hat⟩ := World.cells?_some hc
      exact ⟨b, fun j hj => by rw [← Deep.add_add]; exact hat j hj⟩
    obtain ⟨F, hF⟩ : ∃ F : Nat → β, ∀ i, i < m → ∀ j, j < s → w.cell? (a.add (i * s + j)) = (cells (F i))[j]? := by
      refine ⟨fun i => if h : i < m then Classical.choose (hg i h) else d0, fun i him => ?_⟩
      simp only [him, dif_pos]
      exact Classical.choose_spec (hg i him)
    refine ⟨some a, (List.range len).map F, cap, by simp [hcs], by simpa using hle, ?_⟩
    rcases Nat.eq_zero_or_pos len with h0 | h0
    · subst h0; exact .inl (by simp)
    · obtain ⟨b, off, spot⟩ := a
      have hsome : ∀ i, i < m → ∃ u, (cells (F i))[0]? = some u := fun i _ => ⟨(cells (F i))[0]'(by rw [hlen]; exact hs), List.getElem?_eq_getElem _⟩
      have hspot : spot = none := by
        obtain ⟨u, hu⟩ := hsome 0 (by omega)
        have h1 := hF 0 (by omega) 0 hs
        rw [hu] at h1
        simpa [Addr.add] using World.cell?_spot h1
      subst hspot
      have hadd : ∀ k, (⟨b, off, none⟩ : Addr).add k = ⟨b, off + k, none⟩ := fun k => by unfold Addr.add; split <;> simp_all
      have hfl := flat_len hlen ((List.range len).map F)
      rw [List.length_map, List.length_range] at hfl
      have hcell : ∀ k, k < len * s → w.cell? ⟨b, off + k, none⟩ = (((List.range len).map F).flatMap cells)[k]? := fun k hk => by
        have hks : k / s < len := Nat.div_lt_of_lt_mul (by rw [Nat.mul_comm]; exact hk)
        have hr := Nat.mod_lt k hs
        have hkk : k / s * s + k % s = k := by rw [Nat.mul_comm]; exact Nat.div_add_mod k s
        have h1 := hF (k / s) (by omega) (k % s) hr
        rw [hadd, hkk] at h1
        rw [h1]
        have h2 := flat_get hlen ((List.range len).map F) (k / s) (k % s) (F (k / s)) hr (by simp [hks])
        rw [hkk] at h2
        rw [h2]
      refine .inr ⟨b, off, rfl, ?_, fun k v hv => ?_⟩
      · obtain ⟨u, hu⟩ := hsome 0 (by omega)
        have h1 := hF 0 (by omega) 0 hs
        rw [hadd, hu] at h1
        exact World.block_lt_of_cell? w _ h1
      · have hk : k < len * s := by
          rcases Nat.lt_or_ge k (len * s) with h | h
          · exact h
          · rw [List.getElem?_eq_none (by omega)] at hv; cases hv
        rw [hcell k hk, hv]
theorem one_int {fuel : Nat} {c : Value} {x : DataW H × List MemPlace} (h : DataW.trod enc Try.prog w base spare held fuel 3 [c] = some x) : ∃ a : Int, c = .int .i64 a := by
  obtain ⟨a, e0, _, _⟩ := DataW.trod_int Try.underlying3 h
  simp at e0
  exact ⟨a, e0⟩
set_option maxRecDepth 100000 in
theorem rat_cells {fuel : Nat} {cs : List Value} {x : DataW H × List MemPlace} (h : DataW.trod enc Try.prog w base spare held fuel 30 cs = some x) : ∃ n d : Int, cs = [.int .i64 n, .int .i64 d] := by
  obtain ⟨y0, y1, n, _, hl, h0, h1⟩ := trod_struct2 Try.underlying30 h
  have hC : Try.prog.cellsOf 30 = 2 := by kernel_rfl
  have k0 : Try.prog.cellsOf 3 = 1 := by kernel_rfl
  rw [hC] at hl
  match cs, hl with
  | [c0, c1], _ =>
    replace h0 : DataW.trod enc Try.prog w base spare held n 3 (([c0, c1].drop 0).take (Try.prog.cellsOf 3)) = some y0 := h0
    replace h1 : DataW.trod enc Try.prog w base spare held n 3 (([c0, c1].drop 1).take (Try.prog.cellsOf 3)) = some y1 := h1
    rw [k0] at h0 h1
    obtain ⟨a, rfl⟩ := one_int (c := c0) h0
    obtain ⟨b, rfl⟩ := one_int (c := c1) h1
    exact ⟨a, b, rfl⟩
set_option maxRecDepth 100000 in
theorem item_cells {fuel : Nat} {cs : List Value} {x : DataW H × List MemPlace} (h : DataW.trod enc Try.prog w base spare held fuel 50 cs = some x) : ∃ b : It, cs = [.int .i64 b.u, .int .i64 b.n, .int .i64 b.d] := by
  obtain ⟨y0, y1, n, _, hl, h0, h1⟩ := trod_struct2 Try.underlying50 h
  have hC : Try.prog.cellsOf 50 = 3 := by kernel_rfl
  have k0 : Try.prog.cellsOf 3 = 1 := by kernel_rfl
  have k1 : Try.prog.cellsOf 30 = 2 := by kernel_rfl
  rw [hC] at hl
  match cs, hl with
  | [c0, c1, c2], _ =>
    replace h0 : DataW.trod enc Try.prog w base spare held n 3 (([c0, c1, c2].drop 0).take (Try.prog.cellsOf 3)) = some y0 := h0
    replace h1 : DataW.trod enc Try.prog w base spare held n 30 (([c0, c1, c2].drop 1).take (Try.prog.cellsOf 30)) = some y1 := h1
    rw [k0] at h0
    rw [k1] at h1
    obtain ⟨a, rfl⟩ := one_int (c := c0) h0
    obtain ⟨b, c, e⟩ := rat_cells (cs := [c1, c2]) h1
    injection e with e1 e
    injection e with e2 _
    subst e1 e2
    exact ⟨⟨a, b, c⟩, rfl⟩
set_option maxRecDepth 100000 in
theorem fix_cells {fuel : Nat} {cs : List Value} {x : DataW H × List MemPlace} (h : DataW.trod enc Try.prog w base spare held fuel 77 cs = some x) : ∃ b : Fx, cs = [.int .i64 b.i, .int .i64 b.n, .int .i64 b.d, .int .i64 b.c] := by
  obtain ⟨xs, n, _, _, hl, hlen, hf⟩ := DataW.trod_struct Try.underlying77 h
  have hC : Try.prog.cellsOf 77 = 4 := by kernel_rfl
  have k0 : Try.prog.cellsOf 3 = 1 := by kernel_rfl
  have k1 : Try.prog.cellsOf 30 = 2 := by kernel_rfl
  rw [hC] at hl
  match xs, hlen with
  | [y0, y1, y2], _ =>
  match cs, hl with
  | [c0, c1, c2, c3], _ =>
    have h0 : DataW.trod enc Try.prog w base spare held n 3 (([c0, c1, c2, c3].drop 0).take (Try.prog.cellsOf 3)) = some y0 := by simpa using hf 0 _ rfl
    have h1 : DataW.trod enc Try.prog w base spare held n 30 (([c0, c1, c2, c3].drop 1).take (Try.prog.cellsOf 30)) = some y1 := by simpa using hf 1 _ rfl
    have h2 : DataW.trod enc Try.prog w base spare held n 3 (([c0, c1, c2, c3].drop 3).take (Try.prog.cellsOf 3)) = some y2 := by simpa using hf 2 _ rfl
    rw [k0] at h0 h2
    rw [k1] at h1
    obtain ⟨a, rfl⟩ := one_int (c := c0) h0
    obtain ⟨b, c, e⟩ := rat_cells (cs := [c1, c2]) h1
    obtain ⟨d, rfl⟩ := one_int (c := c3) h2
    injection e with e1 e
    injection e with e2 _
    subst e1 e2
    exact ⟨⟨a, b, c, d⟩, rfl⟩
set_option maxRecDepth 100000 in
/-- Items as an argument. -/
theorem open_items {r : Reach} {b0 : Nat} {v : Value} {d : DataW H} {p : List MemPlace} (hv : Value.okWide Try.prog w r b0 22 v) (h : DataW.Trod enc Try.prog w base spare held 22 v d p) :
    ∃ (A : Option Addr) (l : List It) (cap : Nat), v = .slice A l.length cap ∧ l.length ≤ cap ∧ Rd w A (cellsI l) := by
  obtain ⟨a, len, cap, rfl⟩ := okWide_slice Try.underlying22 hv
  obtain ⟨fuel, hf⟩ := h
  exact open_rows (fun a : It => [.int .i64 a.u, .int .i64 a.n, .int .i64 a.d]) 3 (by decide) (fun _ => rfl) Try.underlying22 (by kernel_rfl) it0 (fun _ _ _ h => item_cells h) hf
set_option maxRecDepth 100000 in
/-- Fixes as an argument. -/
theorem open_fixes {r : Reach} {b0 : Nat} {v : Value} {d : DataW H} {p : List MemPlace} (hv : Value.okWide Try.prog w r b0 44 v) (h : DataW.Trod enc Try.prog w base spare held 44 v d p) :
    ∃ (A : Option Addr) (l : List Fx) (cap : Nat), v = .slice A l.length cap ∧ l.length ≤ cap ∧ Rd w A (cellsF l) := by
  obtain ⟨a, len, cap, rfl⟩ := okWide_slice Try.underlying44 hv
  obtain ⟨fuel, hf⟩ := h
  exact open_rows (fun a : Fx => [.int .i64 a.i, .int .i64 a.n, .int .i64 a.d, .int .i64 a.c]) 4 (by decide) (fun _ => rfl) Try.underlying44 (by kernel_rfl) fx0 (fun _ _ _ h => fix_cells h) hf
end
end Go.Proofs.Ytgbjglkiaoplmaa
