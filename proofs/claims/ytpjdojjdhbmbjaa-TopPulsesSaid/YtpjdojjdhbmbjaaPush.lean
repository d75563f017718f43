/- Functions with a loop over an iterator inside another loop: the marks among their deferred calls. Whether a pulse has a force that is not 0. -/
import Derived.Test.YtpjdojjdhbmbjaaMod
import Derived.Sort.LoopGhostIn
import Derived.Test.YtpjdojjdhbmbjaaVal
namespace Go.Proofs.Ytpjdojjdhbmbjaa
open Go.RowKit

/-- The deferred calls are marks of loops over iterators, each of a block of its own, from lo on and below hi, for which nothing was deferred. -/
def Marks (lo hi : Nat) (X : World) : List Deferred → Prop
  | [] => True
  | d :: ds => (∃ D, d = { target := .collected D, args := #[] } ∧ lo ≤ D ∧ D < hi ∧ X.heap[D]? = some (.deferred (some [])) ∧ ∀ d' ∈ ds, d'.target ≠ .collected D) ∧ Marks lo hi X ds

theorem Marks.keep {lo hi : Nat} {X Y : World} : ∀ {ds : List Deferred}, Marks lo hi X ds → (∀ D, lo ≤ D → D < hi → X.heap[D]? = some (.deferred (some [])) → (∀ d ∈ ds, d.target = .collected D → Y.heap[D]? = some (.deferred (some [])))) → Marks lo hi Y ds
  | [], _, _ => trivial
  | d :: ds, ⟨⟨D, hd, h1, h2, h3, h4⟩, h5⟩, h => ⟨⟨D, hd, h1, h2, h D h1 h2 h3 d (by simp) (by rw [hd]), h4⟩, h5.keep fun D' a b c d' hd e => h D' a b c d' (by simp [hd]) e⟩
theorem Marks.mod {S : Nat → Prop} {lo hi : Nat} {X Y : World} {ds : List Deferred} (h : Marks lo hi X ds) (hm : Mod S X Y) (hn : ∀ D, lo ≤ D → D < hi → ¬ S D) : Marks lo hi Y ds :=
  h.keep fun D h1 h2 h3 _ _ _ => (hm.block D (Array.getElem?_eq_some_iff.1 h3).1 (hn D h1 h2)).trans h3
theorem Marks.call {lo hi : Nat} {X Y : World} {ds : List Deferred} (h : Marks lo hi X ds) (hb : Below X.heap.size X Y) : Marks lo hi Y ds :=
  h.mod (S := fun _ => False) (Mod.of_call hb) (fun _ _ _ h => h)
theorem Marks.more {lo hi hi' : Nat} {X : World} (hh : hi ≤ hi') : ∀ {ds : List Deferred}, Marks lo hi X ds → Marks lo hi' X ds
  | [], _ => trivial
  | _ :: _, ⟨⟨D, hd, h1, h2, h3, h4⟩, h5⟩ => ⟨⟨D, hd, h1, by omega, h3, h4⟩, h5.more hh⟩
theorem Marks.set {lo hi : Nat} {X : World} {ds : List Deferred} (h : Marks lo hi X ds) {g i T : Nat} {cs : Array Value} (hg : Bx X g T cs) (u : Value) : Marks lo hi (X.setCell ⟨g, i, none⟩ u) ds :=
  h.keep fun D _ _ h3 _ _ _ => (Below.heap_setCell X ⟨g, i, none⟩ u D (fun e => by
    subst e
    have h' : X.heap[D]? = some (.cells cs T (0, 0)) := hg
    rw [h'] at h3; cases h3)).trans h3
theorem Marks.lt {lo hi : Nat} {X : World} : ∀ {ds : List Deferred}, Marks lo hi X ds → ∀ d ∈ ds, ∃ D, d.target = .collected D ∧ D < hi
  | _ :: _, ⟨⟨D, h0, _, h2, _, _⟩, h5⟩, d, hd => by
    rcases List.mem_cons.1 hd with rfl | hd
    · exact ⟨D, by rw [h0], h2⟩
    · exact h5.lt d hd
/-- One mark more. -/
theorem Marks.cons {lo hi : Nat} {X : World} {ds : List Deferred} (h : Marks lo hi X ds) {D : Nat} (hlo : lo ≤ D) (hD : hi ≤ D) (hX : X.heap[D]? = some (.deferred (some []))) : Marks lo (D + 1) X ({ target := .collected D, args := #[] } :: ds) :=
  ⟨⟨D, rfl, hlo, by omega, hX, fun d hd e => by
    obtain ⟨D', h1, h2⟩ := h.lt d hd
    rw [h1] at e; injection e with e; omega⟩, h.more (by omega)⟩

theorem leaves_marks {P : Program} {n : Nat} {fn : Func} {tmps : Array Value} {R : Ending → World → Prop} {lo hi : Nat} : ∀ (ds : List Deferred) (X : World), Marks lo hi X ds →
    (∀ Y, Mod (fun k => lo ≤ k) X Y → LeavesInM Fence.wide n P fn tmps R [] .returning Y) → LeavesInM Fence.wide n P fn tmps R ds .returning X
  | [], X, _, h => h X (Mod.refl _ _)
  | d :: ds, X, ⟨⟨D, h0, h1, h2, h3, h4⟩, h5⟩, h => by
    refine ⟨by simp, .inl ⟨D, _, by rw [h0], run_takeDeferred h3, leaves_marks (lo := lo) (hi := hi) ds _ ?_ fun Y hm => h Y (((Mod.refl _ X).putObj (.inr h1) _).trans hm)⟩⟩
    exact h5.keep fun D' _ _ h3' d' hd' e' => (World.putObj_heap_other (fun e => h4 d' hd' (by rw [e', e]))).trans h3'
end Go.Proofs.Ytpjdojjdhbmbjaa
namespace Go.Proofs.Ytpjdojjdhbmbjaa
open Go.RowKit

def pushB (x : List Int) : Bool := x.any (fun f => f != 0)
theorem any_take_no {p : List Int} {k : Nat} (h : k < p.length) (hn : (p.take k).any (fun f => f != 0) = false) (hf : (p.getD k 0 != 0) = false) : (p.take (k + 1)).any (fun f => f != 0) = false := by
  rw [List.take_succ_eq_append_getElem h, List.any_append, hn]
  simp [h] at hf
  simp [hf]
theorem any_take_yes {p : List Int} {k : Nat} (h : k < p.length) (hf : (p.getD k 0 != 0) = true) : pushB p = true := by
  simp [h] at hf
  rw [pushB, List.any_eq_true]
  exact ⟨p[k], List.getElem_mem h, by simpa using hf⟩

theorem pushes1_c (x : Int) (w : World) : Calls Try.prog 100 #[.int .i64 x] w fun e w' => e = .returned (.bool (x != 0)) ∧ w = w' := by
  go_enter Try.func100, Try.ntmps100
  go_wp2
  go_ret
  exact ⟨rfl, rfl⟩

theorem index_c (A : Option Addr) (p : List Int) (cap : Nat) (w : World) (hlen : p.length ≤ 9223372036854775806) (hr : Rd w A (ints p)) :
    Calls Try.prog 115 #[.slice A p.length cap, .func (.func 100) #[] #[]] w fun e w' => ∃ i : Int, e = .returned (.int .i64 i) ∧ decide (0 ≤ i) = pushB p ∧ w = w' := by
  go_enter Try.func115, Try.ntmps115
  go_wp2
  go_loop [8] (fun i => ∃ k : Nat, k ≤ p.length ∧ i = .int .i64 k ∧ Hid ((p.take k).any (fun f => f != 0) = false)) (fun i => p.length - (intOf i).toNat)
  case atStart => exact ⟨0, Nat.zero_le _, rfl, by simp [Hid]⟩
  case round =>
    obtain ⟨k, hk, rfl, hs⟩ := hrel
    by_cases hlt : k < p.length
    · obtain ⟨b, o, rfl, _, hc⟩ := hr.at_ (k := k) (by simpa using hlt)
      have hck := hc k _ (ints_get hlt)
      clear hc
      have H1 := Lib.hid (any_take_no hlt hs.out)
      have H2 := Lib.hid (@any_take_yes p k hlt)
      generalize p.getD k 0 = f at hck H1 H2
      by_cases hf : (f != 0) = true
      · go_wp2_with (go_at_call 100; refine (pushes1_c _ _).mono ?_; rintro e w' ⟨rfl, rfl⟩)
        go_ret
        exact ⟨k, rfl, by rw [H2.out hf]; simp, rfl⟩
      · have hf' : (f != 0) = false := by simpa using hf
        clear hf
        go_wp2_with (go_at_call 100; refine (pushes1_c _ _).mono ?_; rintro e w' ⟨rfl, rfl⟩)
        go_round
        case rel => exact ⟨k + 1, by omega, by go_num, H1.out hf'⟩
        case measure => simp [intOf]; omega
    · obtain rfl : k = p.length := by omega
      go_wp2
      go_ret
      exact ⟨-1, rfl, by have h := hs.out; rw [List.take_length] at h; rw [pushB, h]; rfl, rfl⟩

theorem contains_c (A : Option Addr) (p : List Int) (cap : Nat) (w : World) (hlen : p.length ≤ 9223372036854775806) (hr : Rd w A (ints p)) :
    Calls Try.prog 99 #[.slice A p.length cap, .func (.func 100) #[] #[]] w fun e w' => e = .returned (.bool (pushB p)) ∧ w = w' := by
  go_enter Try.func99, Try.ntmps99
  go_wp2_with (go_at_call 115; refine (index_c _ _ _ _ hlen hr).mono ?_; rintro e w' ⟨i, rfl, hi, rfl⟩; have HI := Lib.hid hi; clear hi)
  go_ret
  exact ⟨ret_b HI.out.symm, rfl⟩

theorem pushes_c (A : Option Addr) (p : List Int) (cap : Nat) (w : World) (hlen : p.length ≤ 9223372036854775806) (hr : Rd w A (ints p)) :
    Calls Try.prog 85 #[.slice A p.length cap] w fun e w' => e = .returned (.bool (pushB p)) ∧ w = w' := by
  go_enter Try.func85, Try.ntmps85
  go_wp2_with (go_at_call 99; refine (contains_c _ _ _ _ hlen hr).mono ?_; rintro e w' ⟨rfl, rfl⟩)
  go_ret
  exact ⟨rfl, rfl⟩
end Go.Proofs.Ytpjdojjdhbmbjaa
