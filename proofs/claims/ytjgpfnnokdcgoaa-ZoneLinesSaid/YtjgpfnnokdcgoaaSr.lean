/- The state of a search, as it lies in memory; what one more arrival does to it. -/
import Derived.Test.YtjgpfnnokdcgoaaOff
import Derived.Test.YtjgpfnnokdcgoaaNear3
import Derived.Test.YtjgpfnnokdcgoaaLow
import Derived.Deep.CutRange
namespace Go.Proofs.Ytjgpfnnokdcgoaa
open Go.RowKit Go.Maps

/-- A place that is reached, and the moves that lead there, the last one first. -/
abbrev Nd := List Int × List (Int × Int)
/-- One move of a place: a new place is put behind those that are open. -/
def stepM (a : Nd) (s : List Nd × List (List Int)) (m : Int × Int) : List Nd × List (List Int) :=
  if a.1.set m.1.toNat m.2 ∈ s.2 then s else (s.1 ++ [(a.1.set m.1.toNat m.2, m :: a.2)], s.2 ++ [a.1.set m.1.toNat m.2])

def plV (p : List Int) : Value := .agg (plA p)
/-- The arrival at block g. -/
def ArrR (w : World) (B : Nat) : Nat → List Int → List (Int × Int) → Prop
  | g, p, [] => B ≤ g ∧ Bx w g 94 (plA p ++ #[.int .i64 0, .pointer none, .int .i64 0, .int .i64 0])
  | g, p, m :: r => B ≤ g ∧ ∃ g' p', Bx w g 94 (plA p ++ #[.int .i64 (r.length + 1 : Nat), .pointer (some ⟨g', 0, none⟩), .int .i64 m.1, .int .i64 m.2]) ∧ ArrR w B g' p' r
theorem ArrR.kept {w w' : World} {B : Nat} (hk : ∀ g cs, Bx w g 94 cs → Bx w' g 94 cs) : ∀ (r : List (Int × Int)) (g : Nat) (p : List Int), ArrR w B g p r → ArrR w' B g p r
  | [], _, _, ⟨h1, h2⟩ => ⟨h1, hk _ _ h2⟩
  | _ :: r, _, _, ⟨h1, g', p', h2, h3⟩ => ⟨h1, g', p', hk _ _ h2, ArrR.kept hk r g' p' h3⟩
/-- Its block. -/
theorem ArrR.box {w : World} {B : Nat} {g : Nat} {p : List Int} {r : List (Int × Int)} (h : ArrR w B g p r) : ∃ bf m1 m2, Bx w g 94 (plA p ++ #[.int .i64 (r.length : Nat), bf, .int .i64 m1, .int .i64 m2]) := by
  cases r with
  | nil => exact ⟨_, _, _, h.2⟩
  | cons m r => obtain ⟨_, g', p', h, _⟩ := h; exact ⟨_, _, _, h⟩

/-- Only the open ones, the map and the rows of pointers may have been written. -/
def K3 (bo bm : Nat) (w w' : World) : Prop :=
  w.heap.size ≤ w'.heap.size ∧ ∀ k, k < w.heap.size → k ≠ bo → k ≠ bm → (∀ cs, w.heap[k]? ≠ some (.cells cs 89 (0, 0))) → w'.heap[k]? = w.heap[k]?
section
variable {w w' w'' : World} {bo bm : Nat}
theorem K3.refl (bo bm : Nat) (w : World) : K3 bo bm w w := ⟨Nat.le_refl _, fun _ _ _ _ _ => rfl⟩
theorem K3.trans (h : K3 bo bm w w') (k : K3 bo bm w' w'') : K3 bo bm w w'' :=
  ⟨Nat.le_trans h.1 k.1, fun j hj h1 h2 h3 => by
    have e := h.2 j hj h1 h2 h3
    exact (k.2 j (Nat.lt_of_lt_of_le hj h.1) h1 h2 (fun cs => by rw [e]; exact h3 cs)).trans e⟩
theorem K3.call (hb : Below w.heap.size w w') : K3 bo bm w w' := ⟨hb.size, fun j hj _ _ _ => hb.block j hj⟩
theorem K3.set (w : World) (bo bm : Nat) (i : Nat) (u : Value) : K3 bo bm w (w.setCell ⟨bo, i, none⟩ u) := ⟨by simp, fun j _ h1 _ _ => Below.heap_setCell w ⟨bo, i, none⟩ u j h1⟩
theorem K3.map (hg : w.grownBy w' (some bm)) : K3 bo bm w w' := ⟨hg.size, fun j hj _ h2 _ => hg.block j hj (fun e => h2 (by injection e))⟩
theorem K3.bx (h : K3 bo bm w w') {k : Nat} {T : TypeId} {cs : Array Value} (hx : Bx w k T cs) (hT : T ≠ 89) (h1 : k ≠ bo) (h2 : k ≠ bm) : Bx w' k T cs :=
  (h.2 k hx.lt h1 h2 (fun cs' e => by
    have e' : w.heap[k]? = some (.cells cs T (0, 0)) := hx
    rw [e'] at e; injection e with e; injection e with _ e; exact hT e)).trans hx
end
theorem Bx.other {w : World} {g g' : Nat} {T T' : TypeId} {cs cs' : Array Value} (h : Bx w g T cs) (h' : Bx w g' T' cs') (hT : T ≠ T') : g ≠ g' := by
  rintro rfl
  have e : w.heap[g]? = some (.cells cs T (0, 0)) := h
  rw [show w.heap[g]? = some (.cells cs' T' (0, 0)) from h'] at e
  injection e with e; injection e with _ e; exact hT e.symm
theorem Seen.not {P : Program} {k e : TypeId} {w : World} {b n : Nat} {S : Value → Bool} (h : Seen P k e w b n S) {g : Nat} {T : TypeId} {cs : Array Value} (hx : Bx w g T cs) : g ≠ b := by
  rintro rfl
  obtain ⟨_, ⟨es, clock, h1, _⟩, _⟩ := h
  rw [show w.heap[g]? = some (.cells cs T (0, 0)) from hx] at h1
  cases h1
theorem Seen.block {P : Program} {k e : TypeId} {w w' : World} {b n : Nat} {S : Value → Bool} (h : Seen P k e w b n S) (hb : w'.heap[b]? = w.heap[b]?) : Seen P k e w' b n S := by
  obtain ⟨D, ⟨es, clock, h1, h2⟩, h3⟩ := h
  exact ⟨D, ⟨es, clock, hb.trans h1, h2⟩, h3⟩
theorem TabI.keep {w w' : World} {base : Nat} {hs : List Value} {ls : List (List Int)} (h : TabI w base hs ls) (hk : ∀ g cs, Bx w g 3 cs → Bx w' g 3 cs) : TabI w' base hs ls :=
  ⟨h.1, fun k hk' => by
    obtain ⟨A, c, h1, h2⟩ := h.2.1 k hk'
    refine ⟨A, c, h1, h2.1, ?_⟩
    rcases h2.2 with h3 | ⟨g, cap, cur, hv, hb, hh, h4⟩
    · exact .inl h3
    · exact .inr ⟨g, cap, cur, hv, hb, hk g cur hh, h4⟩, h.2.2⟩

/-- What a search does not write. -/
structure SN (w : World) (B bo bn bi bs bm : Nat) (Z : Nat) (l : List (Int × Int)) (h0 h1 h2 h3 h4 h5 : Value) (ions : Nat) : Prop where
  net : Bx w bn 78 #[.int .i64 Z, h0, h1, h2, h3, h4, h5]
  tab : TabI w B [h0, h1, h2, h3, h4, h5] ((List.range 6).map fun z : Nat => nearL l (z : Int) Z)
  ion : Bx w bi 3 #[.int .i64 ions]
  seenv : Bx w bs 115 #[.map (some bm)]
  low : B ≤ bo ∧ B ≤ bm ∧ B ≤ w.heap.size
/-- What it writes. -/
structure SQ (w : World) (B bo bm : Nat) (Q : List (Nat × Nd)) (S : List (List Int)) : Prop where
  open_ : ∃ v, Bx w bo 116 #[v] ∧ OffR w B 89 v (Q.map fun x => .pointer (some ⟨x.1, 0, none⟩))
  arrs : ∀ x ∈ Q, ArrR w B x.1 x.2.1 x.2.2
  seen : Seen Try.prog 92 4 w bm S.length (memV plV S)
  long : Q.length ≤ 10000 ∧ S.length ≤ 10000
theorem K3.ty {w w' : World} {bo bm : Nat} (h : K3 bo bm w w') {v : Value} (ho : Bx w bo 116 #[v]) {k e : TypeId} {n : Nat} {S : Value → Bool} (hs : Seen Try.prog k e w bm n S) {g : Nat} {T : TypeId} {cs : Array Value} (hx : Bx w g T cs) (hT : T ≠ 89) (hT2 : T ≠ 116) : Bx w' g T cs :=
  h.bx hx hT (hx.other ho hT2) (hs.not hx)
theorem SN.keep {w w' : World} {B bo bn bi bs bm Z ions n : Nat} {l : List (Int × Int)} {h0 h1 h2 h3 h4 h5 v : Value} {S : Value → Bool} {k e : TypeId} (h : SN w B bo bn bi bs bm Z l h0 h1 h2 h3 h4 h5 ions) (hk : K3 bo bm w w') (ho : Bx w bo 116 #[v]) (hs : Seen Try.prog k e w bm n S) : SN w' B bo bn bi bs bm Z l h0 h1 h2 h3 h4 h5 ions :=
  ⟨hk.ty ho hs h.net (by decide) (by decide), h.tab.keep fun _ _ hx => hk.ty ho hs hx (by decide) (by decide), hk.ty ho hs h.ion (by decide) (by decide), hk.ty ho hs h.seenv (by decide) (by decide), h.low.1, h.low.2.1, Nat.le_trans h.low.2.2 hk.1⟩

theorem SQ.call {w w' : World} {B bo bm : Nat} {Q : List (Nat × Nd)} {S : List (List Int)} (h : SQ w B bo bm Q S) (hb : Below w.heap.size w w') : SQ w' B bo bm Q S :=
  ⟨by obtain ⟨v, h1, h2⟩ := h.open_; exact ⟨v, h1.call hb, h2.call hb⟩, fun x hx => ArrR.kept (fun _ _ hx => hx.call hb) _ _ _ (h.arrs x hx), h.seen.block (hb.block _ h.seen.lt), h.long⟩
theorem cells_place : Try.prog.cellsOf 92 = 4 := by kernel_rfl
theorem place_law : Keyed Try.prog 92 := Keyed.of_law (deep_law_laid laid_out (m := 3) (by omega) (of_decide_eq_true (by kernel_rfl)) (by kernel_rfl) (by kernel_rfl))
theorem keyLits_place (d : Nat) {a b c e : Int} (ha : (Lit.int .i64 a).wf = true) (hb : (Lit.int .i64 b).wf = true) (hc : (Lit.int .i64 c).wf = true) (he : (Lit.int .i64 e).wf = true) :
    Try.prog.keyLits (d + 2) 92 [.int .i64 a, .int .i64 b, .int .i64 c, .int .i64 e] = some [.int .i64 a, .int .i64 b, .int .i64 c, .int .i64 e] := by
  unfold Program.keyLits
  rw [Try.underlying92]
  simp [cells_place, cells_int, List.range_succ, keyLits_int d ha, keyLits_int d hb, keyLits_int d hc, keyLits_int d he]
theorem place_key {p : List Int} (hp : ∀ x ∈ p, 0 ≤ x ∧ x < 1000) : (keyOf Try.prog 92 (plV p)).isSome = true := by
  obtain ⟨d, hd⟩ := fuel2
  have hw : ∀ k, (Lit.int .i64 (p.getD k 0)).wf = true := fun k => by
    by_cases hk : k < p.length
    · have := hp (p.getD k 0) (by simp [hk])
      exact wf_small this.1 this.2
    · rw [List.getD_eq_getElem?_getD, List.getElem?_eq_none (by omega)]; exact wf_small (by decide) (by decide)
  have e1 : Try.prog.keyType 92 = true := by kernel_rfl
  have e2 : Value.formed Try.prog 92 (plV p) = true := by simp [plV, Value.formed, Try.underlying92, cells_place]
  unfold keyOf
  rw [Try.underlying92]
  simp only [e1, e2, hd, Bool.and_self, if_true]
  show (Option.map _ (Try.prog.keyLits (d + 3) 92 [.int .i64 (p.getD 0 0), .int .i64 (p.getD 1 0), .int .i64 (p.getD 2 0), .int .i64 (p.getD 3 0)])).isSome = true
  rw [keyLits_place (d + 1) (hw 0) (hw 1) (hw 2) (hw 3)]
  rfl
theorem plV_inj {p q : List Int} (hl : p.length = q.length) (h4 : p.length ≤ 4) (h : plV p = plV q) : p = q := by
  have h0 : p.getD 0 0 = q.getD 0 0 ∧ p.getD 1 0 = q.getD 1 0 ∧ p.getD 2 0 = q.getD 2 0 ∧ p.getD 3 0 = q.getD 3 0 := by simpa [plV, plA] using h
  obtain ⟨a0, a1, a2, a3⟩ := h0
  apply List.ext_getElem hl
  intro k hk hk'
  have e : ∀ {l : List Int} (h : k < l.length), l[k] = l.getD k 0 := fun h => by simp [h]
  rw [e hk, e hk']
  match k, (by omega : k < 4) with
  | 0, _ => exact a0
  | 1, _ => exact a1
  | 2, _ => exact a2
  | 3, _ => exact a3
theorem mem_pl {S : List (List Int)} {q : List Int} {n : Nat} (hS : ∀ x ∈ S, x.length = n) (hq : q.length = n) (h4 : n ≤ 4) : memV plV S (plV q) = true ↔ q ∈ S := by
  unfold memV
  simp only [decide_eq_true_eq]
  constructor
  · rintro ⟨y, hy, he⟩
    have := plV_inj ((hS y hy).trans hq.symm) (by rw [hS y hy]; exact h4) he
    rwa [← this]
  · intro h; exact ⟨q, h, rfl⟩
theorem mvTo_mem {l : List (Int × Int)} {Z : Nat} {p : List Int} : ∀ {i : Nat} {m : Int × Int}, m ∈ mvTo l Z p i → ∃ j : Nat, j < i ∧ m.1 = (j : Int) ∧ 0 ≤ m.2 ∧ m.2 < (Z : Int) ∧ m.2 ∉ p ∧ linkB l (p.getD j 0) m.2 = true
  | 0, m, h => by simp [mvTo] at h
  | i + 1, m, h => by
    rw [mvTo] at h
    rcases List.mem_append.1 h with h | h
    · obtain ⟨j, h1, h2⟩ := mvTo_mem h
      exact ⟨j, by omega, h2⟩
    · rw [mvIn, List.mem_map] at h
      obtain ⟨t, ht, rfl⟩ := h
      rw [List.mem_filter] at ht
      obtain ⟨h1, h2, h3⟩ := (upTo_mem _ _ _).1 ht.1
      exact ⟨i, by omega, rfl, h1, h2, by simpa using ht.2, h3⟩
theorem own_keep {w w' : World} {base e size n : Nat} {v : Value} {xs : List Value} (h : w.ownsRow base e size v n xs) (hk : ∀ g cs, Bx w g e cs → Bx w' g e cs) : w'.ownsRow base e size v n xs := by
  refine ⟨h.1, ?_⟩
  rcases h.2 with h3 | ⟨g, cap, cur, hv, hb, hh, h4⟩
  · exact .inl h3
  · exact .inr ⟨g, cap, cur, hv, hb, hk g cur hh, h4⟩
theorem tail_run (g o n c : Nat) (h : n + 1 ≤ c) (hn : n ≤ 10000) (w : World) : (Instr.slice 116 (.slice (some ⟨g, o, none⟩) (n + 1) c) (some (.int .i64 1)) none none).run Try.prog w = .ok (.slice (if c = 1 then some ⟨g, o, none⟩ else some ⟨g, o + 1, none⟩) n (c - 1)) w := by
  have q1 : (n : Int) + 1 ≤ (c : Int) := by omega
  by_cases hc : c = 1
  · subst hc
    obtain rfl : n = 0 := by omega
    go_simp
  · have q2 : ¬ (c : Int) = 1 := by omega
    go_simp
    intro h
    omega

end Go.Proofs.Ytjgpfnnokdcgoaa
