/- A set that is kept as a map to booleans: what a look-up answers, and what the storing of true leaves. No condition on the program. -/
import Derived.Maps.OwnSet
import Derived.Maps.OwnOps
import Derived.DeepKeys4
namespace Go.Proofs.Ytjgpfnnokdcgoaa
open Go.Maps Go.WideShapes

theorem plainElem_bool_inv {H : Type} {P : Program} {e : TypeId} (he : P.underlying e = some .bool) {v : Value} {z : DataW H × List MemPlace} (h : plainElem P e v = some z) : ∃ x, v = .bool x ∧ z = (.lit (.bool x), []) := by
  unfold plainElem at h
  rw [he] at h
  cases v <;> simp at h
  exact ⟨_, rfl, h.symm⟩

/-- Block b of w is the call's map of at most n keys; S: which keys have been stored. -/
def Seen (P : Program) (k e : TypeId) (w : World) (b n : Nat) (S : Value → Bool) : Prop :=
  ∃ D : DataW Unit, w.ownsMap P k (plainElem P e) b n D ∧ ∀ v kl, keyOf P k v = some kl → D.atKey kl (.lit (.bool false)) = .lit (.bool (S v))

theorem seen_made (P : Program) (k e : TypeId) (w : World) : Seen P k e (w.alloc (.map #[] 0)) w.heap.size 0 (fun _ => false) :=
  ⟨_, World.ownsMap_made w P k _, fun _ _ _ => rfl⟩
theorem Seen.lt {P : Program} {k e : TypeId} {w : World} {b n : Nat} {S : Value → Bool} (h : Seen P k e w b n S) : b < w.heap.size := by
  obtain ⟨_, h, _⟩ := h; exact h.lt
theorem Seen.kept {P : Program} {k e : TypeId} {w w' : World} {b n : Nat} {S : Value → Bool} {row : Option Nat} (h : Seen P k e w b n S) (hg : w.grownBy w' row) (hne : some b ≠ row) : Seen P k e w' b n S := by
  obtain ⟨D, h1, h2⟩ := h; exact ⟨D, h1.kept hg hne, h2⟩
theorem Seen.alloc {P : Program} {k e : TypeId} {w : World} {b n : Nat} {S : Value → Bool} (h : Seen P k e w b n S) (o : Obj) : Seen P k e (w.alloc o) b n S := by
  obtain ⟨D, h1, h2⟩ := h; exact ⟨D, h1.alloc o, h2⟩
theorem Seen.drew {P : Program} {k e : TypeId} {w : World} {b n : Nat} {S : Value → Bool} (h : Seen P k e w b n S) : Seen P k e w.drew b n S := h
theorem Seen.setCell {P : Program} {k e : TypeId} {w : World} {b n : Nat} {S : Value → Bool} (h : Seen P k e w b n S) {a : Addr} (ha : b ≠ a.block) (u : Value) : Seen P k e (w.setCell a u) b n S := by
  obtain ⟨D, h1, h2⟩ := h; exact ⟨D, h1.setCell ha u, h2⟩
theorem Seen.mono {P : Program} {k e : TypeId} {w : World} {b n m : Nat} {S : Value → Bool} (h : Seen P k e w b n S) (hn : n ≤ m) : Seen P k e w b m S := by
  obtain ⟨D, h1, h2⟩ := h; exact ⟨D, h1.mono hn, h2⟩
theorem seen_look {P : Program} {k e t : TypeId} {w : World} {b n : Nat} {S : Value → Bool} (h : Seen P k e w b n S) (K : Keyed P k) (ht : P.underlying t = some (.map k e)) (he : P.underlying e = some .bool) (hz : (zeroValue e).run P w = .ok (.bool false) w)
    {key : Value} (hkey : (keyOf P k key).isSome = true) : (Instr.lookup t (.map (some b)) key false).run P w = .ok (.bool (S key)) w := by
  obtain ⟨kl, hkey⟩ := Option.isSome_iff_exists.1 hkey
  obtain ⟨D, h1, h2⟩ := h
  obtain ⟨v, ps, hrun, hv⟩ := h1.lookup K ht hz (plainElem_bool he false) hkey
  rw [h2 key kl hkey] at hv
  obtain ⟨x, rfl, hx⟩ := plainElem_bool_inv he hv
  simp only [Prod.mk.injEq] at hx
  have := hx.1
  injection this with this
  injection this with this
  rw [hrun, this]
theorem seen_put {P : Program} {k e t : TypeId} {w : World} {b n : Nat} {S S' : Value → Bool} (h : Seen P k e w b n S) (K : Keyed P k) (ht : P.underlying t = some (.map k e)) (he : P.underlying e = some .bool) (hn : n < maxLen) {key : Value} (hkey : (keyOf P k key).isSome = true)
    (h1 : S' key = true) (h2 : ∀ v, v ≠ key → S' v = S v) : ∃ w', (Instr.mapUpdate t (.map (some b)) key (.bool true)).run P w = .ok () w' ∧ Seen P k e w' b (n + 1) S' ∧ w.grownBy w' (some b) := by
  obtain ⟨kl, hkey⟩ := Option.isSome_iff_exists.1 hkey
  obtain ⟨D, d1, d2⟩ := h
  obtain ⟨w', hrun, r1, r2⟩ := d1.update K ht hn hkey (plainElem_bool he true)
  refine ⟨w', hrun, ⟨_, r1, fun v vl hv => ?_⟩, r2⟩
  by_cases hvk : v = key
  · subst hvk
    rw [hkey] at hv
    injection hv with hv
    subst hv
    rw [atKey_put_same d1.isMap (K.key hkey), h1]
  · have hne : vl ≠ kl := by rintro rfl; exact hvk (K.inj hv hkey)
    rw [atKey_put_other hne, d2 v vl hv, h2 v hvk]

theorem wpList_lookup_seen {P : Program} (w : World) {ops : Array Oper} {rest : List Oper} {o : Oper} {a : Act} {Q : Exit → Act → World → Prop}
    (hg : o.guard = none) (m x : Operand) (t : TypeId) (hop : o.op = Op.lookup t m x false) {k e : TypeId} (K : Keyed P k) (ht : P.underlying t = some (.map k e)) (he : P.underlying e = some .bool) (hz : (zeroValue e).run P w = .ok (.bool false) w)
    (b n : Nat) (S : Value → Bool) (hm : a.eval m = .map (some b)) (h : Seen P k e w b n S) (key : Value) (hx : a.eval x = key) (hkey : (keyOf P k key).isSome = true) (v : Bool) (hv : S key = v)
    (hK : wpList P ops Q rest (a.put o.dst (.bool v)) w) : wpList P ops Q (o :: rest) a w := by
  refine wpList_plain hg fun K' hK' => ?_
  have hrun := seen_look h K ht he hz hkey
  rw [hv] at hrun
  unfold Oper.wp
  simp [execOp, hop, hm, hx, hrun, Result.andThen]
  exact hK' _ _ hK
theorem wpList_mapUpdate_seen {P : Program} (w : World) {ops : Array Oper} {rest : List Oper} {o : Oper} {a : Act} {Q : Exit → Act → World → Prop}
    (hg : o.guard = none) (m x v : Operand) (t : TypeId) (hop : o.op = Op.mapUpdate t m x v) {k e : TypeId} (K : Keyed P k) (ht : P.underlying t = some (.map k e)) (he : P.underlying e = some .bool)
    (b n : Nat) (S S' : Value → Bool) (hm : a.eval m = .map (some b)) (h : Seen P k e w b n S) (hn : n < maxLen) (key : Value) (hx : a.eval x = key) (hv : a.eval v = .bool true) (hkey : (keyOf P k key).isSome = true)
    (h1 : S' key = true) (h2 : ∀ v, v ≠ key → S' v = S v)
    (hK : ∀ w', Seen P k e w' b (n + 1) S' → w.grownBy w' (some b) → wpList P ops Q rest (a.put o.dst undef) w') : wpList P ops Q (o :: rest) a w := by
  refine wpList_plain hg fun K' hK' => ?_
  obtain ⟨w', hrun, r1, r2⟩ := seen_put h K ht he hn hkey h1 h2
  unfold Oper.wp
  simp [execOp, hop, hm, hx, hv, hrun, Result.andThen]
  exact hK' _ _ (hK w' r1 r2)
end Go.Proofs.Ytjgpfnnokdcgoaa
