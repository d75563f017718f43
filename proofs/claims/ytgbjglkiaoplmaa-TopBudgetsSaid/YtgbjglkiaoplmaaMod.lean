/- A relation between worlds: only the blocks of a set have changed, and new ones have come. A law on a loop over an iterator, with it. -/
import Derived.RangeFuncNested
import Derived.RangeFuncBound
import Derived.RangeFuncCalls
import Derived.RangeFuncLeaves
import Derived.Shelf.Abstract
import Derived.Shelf.RegionOpen
import Derived.WalkKit
import Derived.OwnWalkIn
import Derived.TacticsInMore
import Derived.LoopNIn
import Derived.LoopIn
import Derived.WalkSpells
namespace Go.Proofs.Ytgbjglkiaoplmaa
open Go.RowKit

theorem ret_i {a b : Int} (h : b = a) : Ending.returned (.int .i64 a) = .returned (.int .i64 b) := by rw [h]
theorem ret_b {a b : Bool} (h : b = a) : Ending.returned (.bool a) = .returned (.bool b) := by rw [h]

/-- From w to w' only blocks of S have changed; none has gone. -/
structure Mod (S : Nat → Prop) (w w' : World) : Prop where
  os : w'.os = w.os
  tape : w'.tape = w.tape
  output : w'.output = w.output
  size : w.heap.size ≤ w'.heap.size
  block : ∀ k, k < w.heap.size → ¬ S k → w'.heap[k]? = w.heap[k]?

section
variable {S T : Nat → Prop} {a b c w w' : World}
theorem Mod.refl (S : Nat → Prop) (w : World) : Mod S w w := ⟨rfl, rfl, rfl, Nat.le_refl _, fun _ _ _ => rfl⟩
theorem Mod.trans (h : Mod S a b) (k : Mod S b c) : Mod S a c :=
  ⟨k.os.trans h.os, k.tape.trans h.tape, k.output.trans h.output, Nat.le_trans h.size k.size, fun i hi hn => (k.block i (Nat.lt_of_lt_of_le hi h.size) hn).trans (h.block i hi hn)⟩
theorem Mod.weak (h : Mod S a b) (hs : ∀ k, S k → T k) : Mod T a b := ⟨h.os, h.tape, h.output, h.size, fun k hk hn => h.block k hk fun x => hn (hs k x)⟩
/-- .. where only blocks that were there count. -/
theorem Mod.weak' (h : Mod S a b) (hs : ∀ k, k < a.heap.size → S k → T k) : Mod T a b := ⟨h.os, h.tape, h.output, h.size, fun k hk hn => h.block k hk fun x => hn (hs k hk x)⟩
theorem Mod.of_below {B : Nat} (h : Below B a b) : Mod (fun k => B ≤ k) a b := ⟨h.os, h.tape, h.output, h.size, fun k _ hn => h.block k (by omega)⟩
theorem Mod.below {B : Nat} (h : Mod S a b) (hB : B ≤ a.heap.size) (hs : ∀ k, k < B → ¬ S k) : Below B a b := ⟨h.os, h.tape, h.output, h.size, fun k hk => h.block k (by omega) (hs k hk)⟩
/-- What a call leaves that changes nothing that was there. -/
theorem Mod.of_call (h : Below a.heap.size a b) : Mod S a b := ⟨h.os, h.tape, h.output, h.size, fun k hk _ => h.block k hk⟩
theorem Mod.drew (h : Mod S a b) : Mod S a b.drew := ⟨h.os, h.tape, h.output, h.size, h.block⟩
theorem Mod.alloc (h : Mod S a b) (o : Obj) : Mod S a (b.alloc o) :=
  ⟨h.os, h.tape, h.output, by rw [World.size_alloc]; exact Nat.le_succ_of_le h.size, fun k hk hn => (Below.heap_alloc b o k (Nat.lt_of_lt_of_le hk h.size)).trans (h.block k hk hn)⟩
theorem Mod.setCell (h : Mod S a b) {g i : Nat} (hp : a.heap.size ≤ g ∨ S g) (u : Value) : Mod S a (b.setCell ⟨g, i, none⟩ u) :=
  ⟨h.os, h.tape, h.output, by rw [World.size_setCell]; exact h.size, fun k hk hn => (Below.heap_setCell b ⟨g, i, none⟩ u k (fun e => by subst e; rcases hp with hp | hp; exact absurd hk (by omega); exact hn hp)).trans (h.block k hk hn)⟩
theorem Mod.putObj (h : Mod S a b) {l : Nat} (hp : a.heap.size ≤ l ∨ S l) (o : Obj) : Mod S a (b.putObj l o) :=
  ⟨h.os, h.tape, h.output, by rw [World.putObj_size]; exact h.size, fun k hk hn => (World.putObj_heap_other (fun e => by subst e; rcases hp with hp | hp; exact absurd hk (by omega); exact hn hp)).trans (h.block k hk hn)⟩
theorem Mod.grown {row : Option Nat} (h : Mod S a b) (hg : b.grownBy c row) (hr : ∀ k, row = some k → a.heap.size ≤ k ∨ S k) : Mod S a c :=
  ⟨hg.os.trans h.os, hg.tape.trans h.tape, hg.output.trans h.output, Nat.le_trans h.size hg.size, fun k hk hn => (hg.block k (Nat.lt_of_lt_of_le hk h.size) (fun e => by rcases hr k e.symm with h' | h'; omega; exact hn h')).trans (h.block k hk hn)⟩
theorem Mod.cell (h : Mod S a b) {p : Addr} (hp : p.block < a.heap.size) (hn : ¬ S p.block) : b.cell? p = a.cell? p := World.cell?_of_block (h.block p.block hp hn)
theorem Mod.frozen (h : Mod S a b) {p : Addr} (hp : p.block < a.heap.size) (hn : ¬ S p.block) : b.frozen? p = a.frozen? p := World.frozen?_of_block (h.block p.block hp hn)
theorem Mod.call (h : Mod S a b) (k : Below b.heap.size b c) : Mod S a c := h.trans (Mod.of_call k)
end

section
variable {a b c : World}
theorem bl_alloc (h : Below a.heap.size a b) (o : Obj) : Below a.heap.size a (b.alloc o) := h.alloc h.size o
theorem bl_set (h : Below a.heap.size a b) {g i : Nat} (hp : a.heap.size ≤ g) (u : Value) : Below a.heap.size a (b.setCell ⟨g, i, none⟩ u) := h.setCell (p := ⟨g, i, none⟩) hp u
theorem bl_call (h : Below a.heap.size a b) (k : Below b.heap.size b c) : Below a.heap.size a c := h.trans (k.mono h.size)
theorem bl_put (h : Below a.heap.size a b) {l : Nat} (hp : a.heap.size ≤ l) (o : Obj) : Below a.heap.size a (b.putObj l o) :=
  h.grown (grownBy_putObj' b l o) h.size (fun k e => by cases e; exact hp)
end

/-- What lay before a call reads as it read. -/
theorem bl_reads {a b : World} (h : Below a.heap.size a b) : (∀ k o, k < a.heap.size → b.cell? ⟨k, o, none⟩ = a.cell? ⟨k, o, none⟩) ∧ (∀ k o, k < a.heap.size → b.frozen? ⟨k, o, none⟩ = a.frozen? ⟨k, o, none⟩) :=
  ⟨fun k o hk => h.cell (p := ⟨k, o, none⟩) hk, fun k o hk => h.frozen (p := ⟨k, o, none⟩) hk⟩

/-- Whether the blocks from lo to e alone have changed. -/
def zone (lo e : Nat) : Nat → Prop := fun k => lo ≤ k ∧ k < e

theorem wide_n (n : Nat) : Fence.wide.depth.isSome = true → 1 ≤ n := fun h => by simp [Fence.wide] at h

theorem round_any {n m : Nat} {P : Program} {l l' : Nat} {f : FuncId} {tmps : Array Value} {assign body : Code} {w : World} {R : Ending → World → Prop} (h : RoundIn Fence.wide n P l f tmps assign body w R) :
    RoundIn (Fence.wide.inRound l') m P l f tmps assign body w R := ⟨h.1, fun c cs _ => h.2 c cs (fun d hd => by cases hd)⟩

/-- Block g is just the cells cs of type T. -/
def Bx (w : World) (g : Nat) (T : TypeId) (cs : Array Value) : Prop := w.heap[g]? = some (.cells cs T (0, 0))
section
variable {w w' : World} {g : Nat} {T : TypeId} {cs : Array Value} {u v : Value}
theorem Bx.lt (h : Bx w g T cs) : g < w.heap.size := (Array.getElem?_eq_some_iff.1 h).1
theorem Bx.cell (h : Bx w g T cs) (i : Nat) : w.cell? ⟨g, i, none⟩ = cs[i]? := cell_of_row w g i cs T (0, 0) h
theorem Bx.free (h : Bx w g T cs) (i : Nat) : w.frozen? ⟨g, i, none⟩ = false := by
  have h' : w.heap[g]? = some (.cells cs T (0, 0)) := h
  simp [World.frozen?, h']
theorem Bx.new (w : World) (T : TypeId) (cs : Array Value) : Bx (w.alloc (.cells cs T)) w.heap.size T cs := World.alloc_heap_new w _
theorem Bx.newAt (hn : g = w.heap.size) : Bx (w.alloc (.cells cs T)) g T cs := by subst hn; exact Bx.new w T cs
theorem Bx.alloc (h : Bx w g T cs) (o : Obj) : Bx (w.alloc o) g T cs := (Below.heap_alloc w o g h.lt).trans h
theorem Bx.mod {S : Nat → Prop} (h : Bx w g T cs) (hm : Mod S w w') (hn : ¬ S g) : Bx w' g T cs := (hm.block g h.lt hn).trans h
theorem Bx.call (h : Bx w g T cs) (hb : Below w.heap.size w w') : Bx w' g T cs := (hb.block g h.lt).trans h
theorem Bx.drew (h : Bx w g T cs) : Bx w.drew g T cs := h
theorem Bx.put (h : Bx w g T cs) {l : Nat} (hl : g ≠ l) (o : Obj) : Bx (w.putObj l o) g T cs := (World.putObj_heap_other hl).trans h
theorem Bx.far (h : Bx w g T cs) {g' i : Nat} (hp : g ≠ g') (u : Value) : Bx (w.setCell ⟨g', i, none⟩ u) g T cs := (Below.heap_setCell w ⟨g', i, none⟩ u g hp).trans h
theorem Bx.set (h : Bx w g T cs) (i : Nat) (u : Value) : Bx (w.setCell ⟨g, i, none⟩ u) g T (cs.setIfInBounds i u) := by
  have h' : w.heap[g]? = some (.cells cs T (0, 0)) := h
  show (w.heap.modify g _)[g]? = _
  simp [Array.getElem?_modify, h']
theorem Bx.set2 (h : Bx w g T #[u, v]) (x y : Value) : Bx ((w.setCell ⟨g, 0, none⟩ x).setCell ⟨g, 1, none⟩ y) g T #[x, y] := (h.set 0 x).set 1 y
theorem Bx.set1 (h : Bx w g T #[u]) (x : Value) : Bx (w.setCell ⟨g, 0, none⟩ x) g T #[x] := h.set 0 x
theorem Bx.one (h : Bx w g T #[u]) : w.cell? ⟨g, 0, none⟩ = some u ∧ w.frozen? ⟨g, 0, none⟩ = false := ⟨h.cell 0, h.free 0⟩
theorem Bx.two (h : Bx w g T #[u, v]) : w.cell? ⟨g, 0, none⟩ = some u ∧ w.cell? ⟨g, 1, none⟩ = some v ∧ w.frozen? ⟨g, 0, none⟩ = false ∧ w.frozen? ⟨g, 1, none⟩ = false := ⟨h.cell 0, h.cell 1, h.free 0, h.free 1⟩
end

/-- The slice that begins at A holds the cells cs, in a block that is there. -/
def Rd (w : World) (A : Option Addr) (cs : List Value) : Prop :=
  cs = [] ∨ ∃ b o, A = some ⟨b, o, none⟩ ∧ b < w.heap.size ∧ ∀ k v, cs[k]? = some v → w.cell? ⟨b, o + k, none⟩ = some v

theorem Rd.nil (w : World) (A : Option Addr) : Rd w A [] := .inl rfl
theorem Rd.at_ {w : World} {A : Option Addr} {cs : List Value} (h : Rd w A cs) {k : Nat} (hk : k < cs.length) : ∃ b o, A = some ⟨b, o, none⟩ ∧ b < w.heap.size ∧ ∀ j v, cs[j]? = some v → w.cell? ⟨b, o + j, none⟩ = some v := by
  rcases h with rfl | h
  · simp at hk
  · exact h
theorem Rd.mod {S : Nat → Prop} {w w' : World} {A : Option Addr} {cs : List Value} (h : Rd w A cs) (hm : Mod S w w') (hn : ∀ a, A = some a → cs ≠ [] → a.block < w.heap.size → ¬ S a.block) : Rd w' A cs := by
  by_cases he : cs = []
  · exact .inl he
  · rcases h with h | ⟨b, o, rfl, hb, hc⟩
    · exact absurd h he
    · exact .inr ⟨b, o, rfl, Nat.lt_of_lt_of_le hb hm.size, fun k v hv => (hm.cell (p := ⟨b, o + k, none⟩) hb (hn ⟨b, o, none⟩ rfl he hb)).trans (hc k v hv)⟩
theorem Rd.later {w w' : World} {A : Option Addr} {cs : List Value} (h : Rd w A cs) (hb : Below w.heap.size w w') : Rd w' A cs :=
  h.mod (Mod.of_below hb) (fun a _ _ hl hn => by omega)
theorem Rd.blk {w : World} {A : Option Addr} {cs : List Value} (h : Rd w A cs) : ∀ a, A = some a → cs ≠ [] → a.block < w.heap.size := by
  intro a e hne
  rcases h with h | ⟨b, o, h, hb, _⟩
  · exact absurd h hne
  · rw [h] at e; cases e; exact hb
theorem Rd.put {w : World} {A : Option Addr} {cs : List Value} (h : Rd w A cs) {l : Nat} {r : Loop} (hl : w.heap[l]? = some (.loop r)) (o : Obj) : Rd (w.putObj l o) A cs := by
  by_cases he : cs = []
  · exact .inl he
  · rcases h with h | ⟨b, o', rfl, hb, hc⟩
    · exact absurd h he
    · have hne : b ≠ l := by
        rintro rfl
        have h0 := hc 0 cs.head! (by cases cs with | nil => exact absurd rfl he | cons x t => rfl)
        simp [World.cell?, hl] at h0
      exact .inr ⟨b, o', rfl, by rw [World.putObj_size]; exact hb, fun k v hv => (World.cell?_of_block (World.putObj_heap_other hne)).trans (hc k v hv)⟩
/-- The cells of a list of integers. -/
def ints (xs : List Int) : List Value := xs.map (Value.int .i64)
@[simp] theorem ints_length (xs : List Int) : (ints xs).length = xs.length := by simp [ints]
theorem ints_get {xs : List Int} {k : Nat} (h : k < xs.length) : (ints xs)[k]? = some (.int .i64 (xs.getD k 0)) := by
  simp [ints, List.getElem?_eq_getElem h]

/-- THE CONTRACT OF AN ITERATOR: called with yield it gives the elements of xs one by one, and stops where yield says no. K: the blocks that a round must leave as they are; from W.heap.size to e: the iterator's own. -/
def Iter {α : Type} (P : Program) (gf : Nat) (lb : Array Value) (Enc : Nat → α → Array Value → World → Prop) (xs : List α) (K : Nat → Prop) (w : World) : Prop :=
  ∀ (n l : Nat) (J Jx : Nat → List α → World → Prop) (W : World), Below w.heap.size w W →
    (∀ e s A B, J e s A → Mod (zone W.heap.size e) A B → J e s B) → (∀ e s A B, Jx e s A → Mod (zone W.heap.size e) A B → Jx e s B) →
    (∀ e pre x vs W1, J e pre W1 → e ≤ W1.heap.size → (∃ t, xs = pre ++ x :: t) → Enc e x vs W1 → YieldAt Fence.wide (n - 1) P l vs W1 fun en W' =>
      Mod (fun k => ¬ K k ∧ ¬ zone W.heap.size e k) W1 W' ∧ ((en = .returned (.bool true) ∧ J e (pre ++ [x]) W') ∨ (en = .returned (.bool false) ∧ Jx e (pre ++ [x]) W'))) →
    (∀ e W', Below W.heap.size W W' → W.heap.size ≤ e → e ≤ W'.heap.size → J e [] W') →
    CallsIn Fence.wide n P gf (#[.func (.yield l) #[] #[]] ++ lb) W fun en W' => (∃ v, en = .returned v) ∧ ∃ e, e ≤ W'.heap.size ∧ (J e xs W' ∨ ∃ pre, (∃ t, xs = pre ++ t) ∧ Jx e pre W')

/-- How the body of a round may be left. -/
def rangeEnd {α : Type} (K : Nat → Prop) (lo e : Nat) (I : Nat → List α → World → Prop) (Ix : Nat → Code → List α → World → Prop) (s : List α) (W : World) : Exit → Act → World → Prop
  | .normal, _, W' => Mod (fun k => ¬ K k ∧ ¬ zone lo e k) W W' ∧ I e s W'
  | .ret, _, W' => Mod (fun k => ¬ K k ∧ ¬ zone lo e k) W W' ∧ Ix e .ret s W'
  | .exit id, _, W' => Mod (fun k => ¬ K k ∧ ¬ zone lo e k) W W' ∧ Ix e (.exit id) s W'
  | .goto t, _, W' => Mod (fun k => ¬ K k ∧ ¬ zone lo e k) W W' ∧ Ix e (.goto t) s W'
  | .panic _, _, _ => False
  | .outgrown, _, _ => False

/-- THE LAW: a loop over an iterator, outside of every other one. I: what holds between two rounds; Ix: what holds where one has left. The blocks from w.heap.size to e are neither the body's to write, nor may I hang on them. -/
theorem wp_range {P : Program} {n : Nat} {α : Type} {g : Operand} {ps : Array Tmp} {assign body : Code} {Q : Exit → Act → World → Prop} {a : Act} {w : World}
    {gf : Nat} {lb : Array Value} (hg : a.eval g = .func (.func gf) #[] lb) (eg : ∀ args w, (callFunc gf args).run P w = .ok (.enter gf args) w)
    {Enc : Nat → α → Array Value → World → Prop} {xs : List α} {K : Nat → Prop} {w0 : World} (hit : Iter P gf lb Enc xs K w0) (hb0 : Below w0.heap.size w0 w) (hK : ∀ k, K k → k < w.heap.size) (hps : ∀ e x vs W, Enc e x vs W → vs.size = ps.size)
    (I : Nat → List α → World → Prop) (Ix : Nat → Code → List α → World → Prop)
    (hI : ∀ e s A B, I e s A → Mod (zone w.heap.size e) A B → I e s B) (hIx : ∀ e c s A B, Ix e c s A → Mod (zone w.heap.size e) A B → Ix e c s B)
    (h0 : ∀ e W', Below w.heap.size w W' → w.heap.size < e → e ≤ W'.heap.size → I e [] W')
    (Ax : Nat → α → Act → World → Prop) (hAx : ∀ e x a' A B l o, Ax e x a' A → w.heap.size ≤ l → (∃ r, A.heap[l]? = some (.loop r)) → B = A.putObj l o → Ax e x a' B)
    (hassign : ∀ (l e : Nat) (pre : List α) (x : α) (vs : Array Value) (W : World) (k : Act → World → Prop), w.heap.size < e → e ≤ W.heap.size → I e pre W → Enc e x vs W → (∀ a' W', Mod (fun _ => False) W W' → Ax e x a' W' → k a' W') →
      assign.wpIn (Fence.wide.inRound l) (n - 1 - 1) P (Exit.then k (fun _ _ _ => False)) { tmps := (ps.zip vs).foldl (fun t (p, v) => t.setIfInBounds p v) a.tmps, defers := [] } W)
    (hbody : ∀ (l e : Nat) (pre : List α) (x : α) (a' : Act) (W : World), w.heap.size < e → e ≤ W.heap.size → (∃ t, xs = pre ++ x :: t) → I e pre W → Ax e x a' W → body.wpIn (Fence.wide.inRound l) (n - 1 - 1) P (rangeEnd K w.heap.size e I Ix (pre ++ [x]) W) a' W)
    (hdone : ∀ (D e : Nat) (W : World), w.heap.size ≤ D → D < e → e ≤ W.heap.size → I e xs W → W.heap[D]? = some (.deferred (some [])) → Q .normal { a with defers := { target := .collected D, args := #[] } :: a.defers } W)
    (hstop : ∀ (D e : Nat) (c : Code) (pre : List α) (W : World), w.heap.size ≤ D → D < e → e ≤ W.heap.size → (∃ t, xs = pre ++ t) → Ix e c pre W → W.heap[D]? = some (.deferred (some [])) → c.wpIn Fence.wide n P Q { a with defers := { target := .collected D, args := #[] } :: a.defers } W) :
    (Code.rangeFunc g ps assign body).wpIn Fence.wide n P Q a w := by
  refine wpIn_rangeFunc ?_
  intro fn hfn
  show ∃ (l : Nat) (mark : List Deferred) (w₁ : World) (d : Deferred) (w₁' : World) (f : FuncId) (args : Array Value) (w₂ : World), (Instr.enterLoop fn a.tmps ps assign body none).run P w = _ ∧ _
  obtain ⟨rec, hrec⟩ : ∃ rec : LoopState → Option Code → Loop, rec = fun st pe => { state := st, pending := pe, fn, tmps := a.tmps, params := ps, assign, body, defers := w.heap.size } := ⟨_, rfl⟩
  obtain ⟨W1, hW1⟩ : ∃ W1, (w.alloc (.deferred (some []))).alloc (.loop (rec .ready none)) = W1 := ⟨_, rfl⟩
  have hs1 : W1.heap.size = w.heap.size + 2 := by rw [← hW1]; simp
  have hB1 : Below w.heap.size w W1 := by rw [← hW1]; exact ((Below.refl _ w).alloc (Nat.le_refl _) _).alloc (by simp) _
  have hL1 : W1.heap[w.heap.size + 1]? = some (.loop (rec .ready none)) := by
    rw [← hW1]; have := World.alloc_heap_new (w.alloc (.deferred (some []))) (.loop (rec .ready none)); rwa [World.size_alloc] at this
  have hK1 : W1.heap[w.heap.size]? = some (.deferred (some [])) := by
    rw [← hW1]; exact (Below.heap_alloc _ _ _ (by simp)).trans (World.alloc_heap_new w _)
  refine ⟨w.heap.size + 1, [{ target := .collected w.heap.size, args := #[] }], W1, { target := .fn (.func gf) lb, args := #[.func (.yield (w.heap.size + 1)) #[] #[]] }, W1, gf,
    #[.func (.yield (w.heap.size + 1)) #[] #[]] ++ lb, W1, ?_, ?_, ?_, ?_, ?_, ?_⟩
  · rw [← hW1, hrec]; exact run_enterLoop_outer _ _ _ _ _
  · simp only [resolve, hg]
    simp [go_sem]
  · intro f' hf'; trivial
  · simp [invoke, go_sem, eg]
  · intro h; simp [Fence.wide] at h
  · have keep : ∀ {A B : World} {S : Nat → Prop} {k : Nat} {o : Obj}, Mod S A B → ¬ S k → A.heap[k]? = some o → B.heap[k]? = some o :=
      fun hm hn ho => (hm.block _ (Array.getElem?_eq_some_iff.1 ho).1 hn).trans ho
    have hsub : ∀ {e k : Nat}, zone W1.heap.size e k → zone w.heap.size e k := fun h => ⟨by have := h.1; omega, h.2⟩
    refine (hit (n - 1) (w.heap.size + 1)
      (fun e pre W => I e pre W ∧ W.heap[w.heap.size + 1]? = some (.loop (rec .ready none)) ∧ W.heap[w.heap.size]? = some (.deferred (some [])) ∧ w.heap.size + 2 ≤ e)
      (fun e pre W => ∃ c, Ix e c pre W ∧ W.heap[w.heap.size + 1]? = some (.loop (rec .done (some c))) ∧ W.heap[w.heap.size]? = some (.deferred (some [])) ∧ w.heap.size + 2 ≤ e)
      W1 (hb0.trans (hB1.mono hb0.size)) ?_ ?_ ?_ ?_).mono ?_
    · rintro e s A B ⟨hi, hl, hk, he⟩ hm
      exact ⟨hI _ _ _ _ hi (hm.weak fun _ => hsub), keep hm (fun hz => by have := hz.1; omega) hl, keep hm (fun hz => by have := hz.1; omega) hk, he⟩
    · rintro e s A B ⟨c, hi, hl, hk, he⟩ hm
      exact ⟨c, hIx _ _ _ _ _ hi (hm.weak fun _ => hsub), keep hm (fun hz => by have := hz.1; omega) hl, keep hm (fun hz => by have := hz.1; omega) hk, he⟩
    · rintro e pre x vs W ⟨hi, hl, hk, he⟩ hsz hpre henc
      have hy := run_yield (P := P) (args := vs) hl (by rw [hrec]; exact hps e x vs W henc)
      rw [hrec] at hy
      refine ⟨fn, _, assign, body, hy, roundIn_of_wpIn trivial (hassign _ e pre x vs W _ (by omega) hsz hi henc ?_)⟩
      clear hy
      intro a' Wa hma hax
      have hla := keep hma (fun h => h) hl
      have hka := keep hma (fun h => h) hk
      have hia := hI _ _ _ _ hi (hma.weak fun _ h => h.elim)
      have hlt : w.heap.size + 1 < Wa.heap.size := (Array.getElem?_eq_some_iff.1 hla).1
      refine ⟨_, run_beginRound hla (by rw [hrec]), ?_⟩
      have hl2 : (Wa.putObj (w.heap.size + 1) (.loop { rec .ready none with state := .busy })).heap[w.heap.size + 1]? = some (.loop { rec .ready none with state := .busy }) := World.putObj_heap_same hlt
      have hk2 : (Wa.putObj (w.heap.size + 1) (.loop { rec .ready none with state := .busy })).heap[w.heap.size]? = some (.deferred (some [])) := (World.putObj_heap_other (by omega)).trans hka
      have hin : zone w.heap.size e (w.heap.size + 1) := ⟨by omega, by omega⟩
      have hm2 : Mod (zone w.heap.size e) Wa (Wa.putObj (w.heap.size + 1) (.loop { rec .ready none with state := .busy })) := (Mod.refl _ _).putObj (.inr hin) _
      have hfree : ¬ K (w.heap.size + 1) ∧ ¬ zone W1.heap.size e (w.heap.size + 1) := ⟨fun h => by have := hK _ h; omega, fun h => by have := h.1; omega⟩
      refine wpIn_mono (hbody _ e pre x a' _ (by omega) (by rw [World.putObj_size]; exact Nat.le_trans hsz hma.size) hpre (hI _ _ _ _ hia hm2) (hAx e x a' _ _ _ _ hax (by omega) ⟨_, hla⟩ rfl)) ?_
      have fin : ∀ (jump : Option Code) (W3 : World), Mod (fun k => ¬ K k ∧ ¬ zone w.heap.size e k) (Wa.putObj (w.heap.size + 1) (.loop { rec .ready none with state := .busy })) W3 →
          (Instr.endRound (w.heap.size + 1) jump).run P W3 = .ok (.bool jump.isNone) (W3.putObj (w.heap.size + 1) (.loop (rec (if jump.isNone then .ready else .done) jump))) ∧
          (W3.putObj (w.heap.size + 1) (.loop (rec (if jump.isNone then .ready else .done) jump))).heap[w.heap.size + 1]? = some (.loop (rec (if jump.isNone then .ready else .done) jump)) ∧
          (W3.putObj (w.heap.size + 1) (.loop (rec (if jump.isNone then .ready else .done) jump))).heap[w.heap.size]? = some (.deferred (some [])) ∧
          Mod (fun k => ¬ K k ∧ ¬ zone W1.heap.size e k) W (W3.putObj (w.heap.size + 1) (.loop (rec (if jump.isNone then .ready else .done) jump))) ∧
          Mod (zone w.heap.size e) W3 (W3.putObj (w.heap.size + 1) (.loop (rec (if jump.isNone then .ready else .done) jump))) := fun jump W3 hm3 => by
        have hl3 := keep hm3 (fun h => h.2 hin) hl2
        have hk3 := keep hm3 (fun h => h.2 ⟨Nat.le_refl _, by omega⟩) hk2
        have he3 := run_endRound (P := P) jump hl3
        rw [hrec] at he3 ⊢
        refine ⟨he3, World.putObj_heap_same (Array.getElem?_eq_some_iff.1 hl3).1, (World.putObj_heap_other (by omega)).trans hk3, ?_, (Mod.refl _ _).putObj (.inr hin) _⟩
        rw [hrec] at hm3
        exact ((((hma.weak fun _ h => h.elim).putObj (.inr hfree) _).trans (hm3.weak fun k h => ⟨h.1, fun hz => h.2 (hsub hz)⟩)).putObj (.inr hfree) _)
      rintro ex a3 W3 hp
      cases ex with
      | normal =>
        obtain ⟨hm3, hi3⟩ := hp
        obtain ⟨hr, hl4, hk4, hm4, hz4⟩ := fin none W3 hm3
        exact ⟨_, _, hr, hm4, .inl ⟨rfl, hI _ _ _ _ hi3 hz4, hl4, hk4, he⟩⟩
      | ret =>
        obtain ⟨hm3, hi3⟩ := hp
        obtain ⟨hr, hl4, hk4, hm4, hz4⟩ := fin (some .ret) W3 hm3
        exact ⟨_, _, hr, hm4, .inr ⟨rfl, .ret, hIx _ _ _ _ _ hi3 hz4, hl4, hk4, he⟩⟩
      | exit id =>
        obtain ⟨hm3, hi3⟩ := hp
        obtain ⟨hr, hl4, hk4, hm4, hz4⟩ := fin (some (.exit id)) W3 hm3
        exact ⟨_, _, hr, hm4, .inr ⟨rfl, .exit id, hIx _ _ _ _ _ hi3 hz4, hl4, hk4, he⟩⟩
      | goto t =>
        obtain ⟨hm3, hi3⟩ := hp
        obtain ⟨hr, hl4, hk4, hm4, hz4⟩ := fin (some (.goto t)) W3 hm3
        exact ⟨_, _, hr, hm4, .inr ⟨rfl, .goto t, hIx _ _ _ _ _ hi3 hz4, hl4, hk4, he⟩⟩
      | panic ch => exact hp.elim
      | outgrown => exact hp.elim
    · intro e W' hb he hsz
      exact ⟨h0 _ _ (hB1.trans (hb.mono (by omega))) (by omega) hsz, (hb.block _ (by omega)).trans hL1, (hb.block _ (by omega)).trans hK1, by omega⟩
    · rintro en W2 ⟨⟨v, rfl⟩, e, hsz, (⟨hi, hl, hk, he⟩ | ⟨pre, hpre, c, hi, hl, hk, he⟩)⟩
      · have hr := run_endLoop (P := P) hl (by rw [hrec]; simp)
        rw [hrec] at hr
        refine ⟨none, _, hr, hdone _ e _ (Nat.le_refl _) (by omega) (by rw [World.putObj_size]; exact hsz) (hI _ _ _ _ hi ((Mod.refl _ _).putObj (.inr ⟨by omega, by omega⟩) _)) ((World.putObj_heap_other (by omega)).trans hk)⟩
      · have hr := run_endLoop (P := P) hl (by rw [hrec]; simp)
        rw [hrec] at hr
        exact ⟨some c, _, hr, hstop _ e c pre _ (Nat.le_refl _) (by omega) (by rw [World.putObj_size]; exact hsz) hpre (hIx _ _ _ _ _ hi ((Mod.refl _ _).putObj (.inr ⟨by omega, by omega⟩) _)) ((World.putObj_heap_other (by omega)).trans hk)⟩
end Go.Proofs.Ytgbjglkiaoplmaa
