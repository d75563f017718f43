/- Arguments of a law that are gates and lists of gates, opened. -/
import Derived.Test.YteoajadcdjaalaaProg
import Derived.Test.YteoajadcdjaalaaList
import Derived.Lib.SmallJoins
import Derived.OpenShut
import Derived.ChangeOld
import Derived.Deep.Slices
namespace Go.Proofs.Yteoajadcdjaalaa
open Go.ChangeShapes Go.WideShapes Go.ChangeAt Go.RowKit

section
variable {H : Type} {enc : TypeId × Value → H} {P : Program} {w : World} {base : Nat} {spare : Nat → Bool} {held : Bool}
/-- Four ints in memory. -/
theorem four_ints {t : TypeId} {f0 f1 f2 f3 : Field} {fuel : Nat} {cs : List Value} {x : DataW H × List MemPlace} (hs : P.underlying t = some (.struct #[f0, f1, f2, f3])) (hone : Deep.oneCellFields P #[f0, f1, f2, f3] = true) (hC : P.cellsOf t = 4)
    (i0 : P.underlying f0.type = some (.int .i64)) (i1 : P.underlying f1.type = some (.int .i64)) (i2 : P.underlying f2.type = some (.int .i64)) (i3 : P.underlying f3.type = some (.int .i64))
    (h : DataW.trod enc P w base spare held fuel t cs = some x) : ∃ a b c d : Int, cs = [.int .i64 a, .int .i64 b, .int .i64 c, .int .i64 d] := by
  obtain ⟨y0, y1, y2, y3, n, _, hl, h0, h1, h2, h3⟩ := Joins.trod_struct4 hs h
  obtain ⟨o0, k0⟩ := Deep.hone_of hone 0 f0 rfl
  obtain ⟨o1, k1⟩ := Deep.hone_of hone 1 f1 rfl
  obtain ⟨o2, k2⟩ := Deep.hone_of hone 2 f2 rfl
  obtain ⟨o3, k3⟩ := Deep.hone_of hone 3 f3 rfl
  rw [hC] at hl
  match cs, hl with
  | [c0, c1, c2, c3], _ =>
    rw [o0, k0] at h0
    rw [o1, k1] at h1
    rw [o2, k2] at h2
    rw [o3, k3] at h3
    obtain ⟨a, e0, _, _⟩ := DataW.trod_int i0 h0
    obtain ⟨b, e1, _, _⟩ := DataW.trod_int i1 h1
    obtain ⟨c, e2, _, _⟩ := DataW.trod_int i2 h2
    obtain ⟨d, e3, _, _⟩ := DataW.trod_int i3 h3
    simp at e0 e1 e2 e3
    exact ⟨a, b, c, d, by rw [e0, e1, e2, e3]⟩

set_option maxRecDepth 100000 in
/-- A gate by value. -/
theorem open_gate {r : Reach} {b0 : Nat} {v : Value} {d : DataW H} {p : List MemPlace} (hv : Value.okWide Try.prog w r b0 23 v) (h : DataW.Trod enc Try.prog w base spare held 23 v d p) : ∃ k a b t : Int, v = .agg #[.int .i64 k, .int .i64 a, .int .i64 b, .int .i64 t] := by
  obtain ⟨v0, v1, v2, v3, y0, y1, y2, y3, n, rfl, _, _, h0, h1, h2, h3⟩ := Joins.open_agg4 Try.underlying23 (by kernel_rfl) (show Try.prog.cellsOf 23 = 4 by kernel_rfl) hv h
  obtain ⟨a, e0, _, _⟩ := DataW.trod_int Try.underlying3 h0
  obtain ⟨b, e1, _, _⟩ := DataW.trod_int Try.underlying3 h1
  obtain ⟨c, e2, _, _⟩ := DataW.trod_int Try.underlying3 h2
  obtain ⟨d, e3, _, _⟩ := DataW.trod_int Try.underlying3 h3
  simp at e0 e1 e2 e3
  exact ⟨a, b, c, d, by rw [e0, e1, e2, e3]⟩

set_option maxRecDepth 100000 in
/-- A list of gates. -/
theorem open_gates {fuel : Nat} {v : Value} {x : DataW H × List MemPlace} (h : DataW.trod enc Try.prog w base spare held fuel 29 [v] = some x) :
    ∃ (A : Option Addr) (l : List G) (cap : Nat), v = .slice A l.length cap ∧ l.length ≤ cap ∧ Rd w A (cellsG l) := by
  rcases Deep.open_slice Try.underlying29 h with ⟨hcs, _⟩ | ⟨a, len, cap, m, n, D, Pl, hcs, _, hle, _, hm, _, hi⟩
  · simp at hcs
    exact ⟨none, [], 0, hcs, Nat.le_refl _, .inl rfl⟩
  · simp at hcs
    have hlm : len ≤ m := by rw [hm]; split <;> omega
    have hc4 : Try.prog.cellsOf 23 = 4 := by kernel_rfl
    have hg : ∀ i, i < m → ∃ g : G, ∀ j, j < 4 → w.cell? (a.add (i * 4 + j)) = [Value.int .i64 g.1, .int .i64 g.2.1, .int .i64 g.2.2.1, .int .i64 g.2.2.2][j]? := fun i him => by
      obtain ⟨cs', hc, ht⟩ := hi i him
      obtain ⟨a0, b0, c0, d0, rfl⟩ := four_ints Try.underlying23 (by kernel_rfl) hc4 Try.underlying3 Try.underlying3 Try.underlying3 Try.underlying3 ht
      rw [hc4] at hc
      obtain ⟨_, _, hat⟩ := World.cells?_some hc
      exact ⟨(a0, b0, c0, d0), fun j hj => by rw [← Deep.add_add]; exact hat j hj⟩
    obtain ⟨F, hF⟩ : ∃ F : Nat → G, ∀ i, i < m → ∀ j, j < 4 → w.cell? (a.add (i * 4 + j)) = [Value.int .i64 (F i).1, .int .i64 (F i).2.1, .int .i64 (F i).2.2.1, .int .i64 (F i).2.2.2][j]? := by
      refine ⟨fun i => if h : i < m then Classical.choose (hg i h) else g0, fun i him => ?_⟩
      simp only [him, dif_pos]
      exact Classical.choose_spec (hg i him)
    refine ⟨some a, (List.range len).map F, cap, by simp [hcs], by simpa using hle, ?_⟩
    rcases Nat.eq_zero_or_pos len with h0 | h0
    · subst h0; exact .inl (by simp [cellsG])
    · obtain ⟨b, off, spot⟩ := a
      have hspot : spot = none := by
        have h1 := hF 0 (by omega) 0 (by omega)
        simpa [Addr.add] using World.cell?_spot (h1.trans rfl)
      subst hspot
      have hadd : ∀ k, (⟨b, off, none⟩ : Addr).add k = ⟨b, off + k, none⟩ := fun k => by unfold Addr.add; split <;> simp_all
      have hcell : ∀ k, k < len * 4 → w.cell? ⟨b, off + k, none⟩ = (cellsG ((List.range len).map F))[k]? := fun k hk => by
        have h1 := hF (k / 4) (by omega) (k % 4) (Nat.mod_lt _ (by decide))
        rw [hadd, show k / 4 * 4 + k % 4 = k by omega] at h1
        rw [h1]
        have hk4 : k / 4 < len := by omega
        obtain ⟨c0, c1, c2, c3⟩ := cellsG_get ((List.range len).map F) (k / 4) (by simpa using hk4)
        have hx : ((List.range len).map F).getD (k / 4) g0 = F (k / 4) := by simp [hk4]
        rw [hx] at c0 c1 c2 c3
        have ht4 : k = k / 4 * 4 + k % 4 := by omega
        have hm4 : k % 4 < 4 := Nat.mod_lt _ (by decide)
        conv => rhs; rw [ht4]
        generalize k % 4 = r at *
        match r, hm4 with
        | 0, _ => rw [Nat.add_zero, c0]; rfl
        | 1, _ => rw [c1]; rfl
        | 2, _ => rw [c2]; rfl
        | 3, _ => rw [c3]; rfl
      refine .inr ⟨b, off, rfl, ?_, fun k v hv => ?_⟩
      · have h1 := hcell 0 (by omega)
        obtain ⟨c0, _, _, _⟩ := cellsG_get ((List.range len).map F) 0 (by simpa using h0)
        rw [Nat.zero_mul] at c0
        rw [c0] at h1
        exact World.block_lt_of_cell? w ⟨b, off + 0, none⟩ h1
      · have hk : k < len * 4 := by
          rcases Nat.lt_or_ge k (len * 4) with h | h
          · exact h
          · rw [List.getElem?_eq_none (by simpa using h)] at hv; cases hv
        rw [hcell k hk, hv]
set_option maxRecDepth 100000 in
/-- .. as an argument. -/
theorem open_gates_arg {r : Reach} {b0 : Nat} {v : Value} {d : DataW H} {p : List MemPlace} (hv : Value.okWide Try.prog w r b0 29 v) (h : DataW.Trod enc Try.prog w base spare held 29 v d p) :
    ∃ (A : Option Addr) (l : List G) (cap : Nat), v = .slice A l.length cap ∧ l.length ≤ cap ∧ Rd w A (cellsG l) := by
  obtain ⟨a, len, cap, rfl⟩ := okWide_slice Try.underlying29 hv
  obtain ⟨fuel, hf⟩ := h
  exact open_gates hf
set_option maxRecDepth 100000 in
/-- Two gates by value. -/
theorem open_two {r : Reach} {b0 : Nat} {v : Value} {d : DataW H} {p : List MemPlace} (hv : Value.okWide Try.prog w r b0 54 v) (h : DataW.Trod enc Try.prog w base spare held 54 v d p) :
    ∃ k a b t k' a' b' t' : Int, v = .agg #[.int .i64 k, .int .i64 a, .int .i64 b, .int .i64 t, .int .i64 k', .int .i64 a', .int .i64 b', .int .i64 t'] := by
  obtain ⟨cs, rfl, hsz⟩ := okWide_struct Try.underlying54 hv
  obtain ⟨fuel, hf⟩ := h
  obtain ⟨xs, n, _, _, _, hlen, hg⟩ := DataW.trod_struct Try.underlying54 hf
  have hc4 : Try.prog.cellsOf 23 = 4 := by kernel_rfl
  have hc8 : Try.prog.cellsOf 54 = 8 := by kernel_rfl
  have h0 := hg 0 _ rfl
  have h1 := hg 1 _ rfl
  rw [hc8] at hsz
  obtain ⟨y0, hy0⟩ : ∃ y, xs[0]? = some y := ⟨xs[0]'(by rw [hlen]; decide), by simp⟩
  obtain ⟨y1, hy1⟩ : ∃ y, xs[1]? = some y := ⟨xs[1]'(by rw [hlen]; decide), by simp⟩
  rw [hy0] at h0
  rw [hy1] at h1
  obtain ⟨k, a, b, t, e0⟩ := four_ints Try.underlying23 (by kernel_rfl) hc4 Try.underlying3 Try.underlying3 Try.underlying3 Try.underlying3 h0
  obtain ⟨k', a', b', t', e1⟩ := four_ints Try.underlying23 (by kernel_rfl) hc4 Try.underlying3 Try.underlying3 Try.underlying3 Try.underlying3 h1
  refine ⟨k, a, b, t, k', a', b', t', ?_⟩
  have e0' : cs.toList.take 4 = [.int .i64 k, .int .i64 a, .int .i64 b, .int .i64 t] := e0
  have e1' : (cs.toList.drop 4).take 4 = [.int .i64 k', .int .i64 a', .int .i64 b', .int .i64 t'] := e1
  have hd : cs.toList = cs.toList.take 4 ++ (cs.toList.drop 4).take 4 := by
    rw [List.take_of_length_le (l := cs.toList.drop 4) (by simp [hsz]), List.take_append_drop]
  have hcs : cs = cs.toList.toArray := by simp
  rw [hcs, hd, e0', e1']
  rfl
end
end Go.Proofs.Yteoajadcdjaalaa
