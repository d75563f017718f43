/- A list of gates that is put in order: slices.SortFunc with package circuit's compare. -/
import Derived.Test.YteoajadcdjaalaaLayM
import Derived.Test.YteoajadcdjaalaaShelfS
import Derived.Shelf.SlSortCmp.SmallK
import Derived.Shelf.Small.Bits
namespace Go.Proofs.Yteoajadcdjaalaa
open Go.RowKit Go.Sort

def encG (x : G) : List Value := [.int .i64 x.1, .int .i64 x.2.1, .int .i64 x.2.2.1, .int .i64 x.2.2.2]
theorem flat_cells (l : List G) : flatK encG 4 l.toArray = (cellsG l).toArray := by
  apply ext_get!
  · simp
  · intro t ht
    have ht' : t < l.length * 4 := by simpa using ht
    rw [get_flatK _ _ _ _ (by simpa using ht')]
    obtain ⟨h0, h1, h2, h3⟩ := cellsG_get l (t / 4) (by omega)
    have hx : l.toArray[t / 4]! = l.getD (t / 4) g0 := by
      have h : t / 4 < l.length := by omega
      simp [h]
    rw [hx]
    have hr : (cellsG l).toArray[t]! = ((cellsG l)[t]?).getD default := by simp
    rw [hr]
    have ht4 : t = t / 4 * 4 + t % 4 := by omega
    have hm : t % 4 < 4 := Nat.mod_lt _ (by decide)
    generalize l.getD (t / 4) g0 = x at *
    generalize t / 4 = q at *
    generalize t % 4 = r at *
    subst ht4
    match r, hm with
    | 0, _ => rw [Nat.add_zero, h0]; rfl
    | 1, _ => rw [h1]; rfl
    | 2, _ => rw [h2]; rfl
    | 3, _ => rw [h3]; rfl

theorem putCells_take (F cur : Array Value) (h : F.size ≤ cur.size) : (putCells id 0 F cur).toList.take F.size = F.toList := by
  apply List.ext_getElem
  · simp [putCells]; omega
  · intro i h1 h2
    have hi : i < F.size := by simpa using h2
    simp [putCells, hi]
theorem putRow_at {w : World} {g : Nat} {cur F : Array Value} {e : TypeId} {fr : Nat × Nat} (h : w.heap[g]? = some (.cells cur e fr)) : (putRow id w g 0 F).heap[g]? = some (.cells (putCells id 0 F cur) e fr) := by
  show (w.heap.modify g (onCells _))[g]? = _
  simp [Array.getElem?_modify, h, onCells]
theorem putRow_far {w : World} {g k : Nat} {F : Array Value} (h : k ≠ g) : (putRow id w g 0 F).heap[k]? = w.heap[k]? := by
  show (w.heap.modify g (onCells _))[k]? = _
  rw [Array.getElem?_modify, if_neg (fun e => h e.symm)]

set_option maxRecDepth 100000 in
set_option maxHeartbeats 1000000 in
theorem compare_x (x y : G) (w : World) : Calls Try.prog 94 #[.agg (encG x).toArray, .agg (encG y).toArray] w
    fun e w' => e = .returned (.int .i64 (cmpGG x y)) ∧ ∃ q os', w' = grow (w.drewN q) os' := by
  obtain ⟨k, a, b, t⟩ := x
  obtain ⟨k', a', b', t'⟩ := y
  show Calls Try.prog 94 #[.agg #[.int .i64 k, .int .i64 a, .int .i64 b, .int .i64 t], .agg #[.int .i64 k', .int .i64 a', .int .i64 b', .int .i64 t']] w
    fun e w' => e = .returned (.int .i64 (cmpG k a b t k' a' b' t')) ∧ ∃ q os', w' = grow (w.drewN q) os'
  have x0 := (Bx.new w 23 #[.int .i64 k, .int .i64 a, .int .i64 b, .int .i64 t]).alloc (.cells #[.int .i64 k', .int .i64 a', .int .i64 b', .int .i64 t'] 23)
  have x1 : Bx ((w.alloc (.cells #[.int .i64 k, .int .i64 a, .int .i64 b, .int .i64 t] 23)).alloc (.cells #[.int .i64 k', .int .i64 a', .int .i64 b', .int .i64 t'] 23)) (w.heap.size + 1) 23 #[.int .i64 k', .int .i64 a', .int .i64 b', .int .i64 t'] := Bx.newAt (by simp)
  have hwd : ∀ o, ∃ q os', ((w.alloc (.cells #[.int .i64 k, .int .i64 a, .int .i64 b, .int .i64 t] 23)).alloc (.cells #[.int .i64 k', .int .i64 a', .int .i64 b', .int .i64 t'] 23)).drew.alloc o = grow (w.drewN q) os' := fun o => ⟨1, _, by rw [alloc_eq_grow, alloc_eq_grow, alloc_eq_grow, grow_grow, drew_grow, grow_grow]; rfl⟩
  obtain ⟨i1, i2, i3, i4, _, _, _, _⟩ := x0.four
  obtain ⟨j1, j2, j3, j4, _, _, _, _⟩ := x1.four
  go_enter Try.func94, Try.ntmps94
  go_wp2_with (fail)
  generalize (w.alloc (.cells #[.int .i64 k, .int .i64 a, .int .i64 b, .int .i64 t] 23)).alloc (.cells #[.int .i64 k', .int .i64 a', .int .i64 b', .int .i64 t'] 23) = w0 at *
  refine wp_region_still_tail 20 (by kernel_rfl) (by kernel_rfl) ?_
  simp only [List.take_succ_cons, List.take_zero, List.drop_succ_cons, List.drop_zero]
  repeat still_step
  still_call ((cmp_c _ _ _).mono fun e w' h => ⟨h.1, h.2.symm⟩)
  repeat still_step
  still_call ((cmp_c _ _ _).mono fun e w' h => ⟨h.1, h.2.symm⟩)
  repeat still_step
  still_call ((cmp_c _ _ _).mono fun e w' h => ⟨h.1, h.2.symm⟩)
  repeat still_step
  still_call ((cmp_c _ _ _).mono fun e w' h => ⟨h.1, h.2.symm⟩)
  repeat still_step
  refine wpStill_nil ?_
  change wpList _ _ _ _ _ w0.drew
  clear i1 i2 i3 i4 j1 j2 j3 j4 x0 x1
  generalize w0.drew = w1 at *
  have HO := Lib.hid (or_c _ [cmpI k k', cmpI a a', cmpI b b', cmpI t t'] 4 _ (by simp) (Bx.rd (cs := ints [cmpI k k', cmpI a a', cmpI b b', cmpI t t']) (Bx.new w1 3 _)))
  go_wp2_with (fail)
  refine HO.out.mono ?_
  rintro e w' ⟨rfl, rfl⟩
  go_wp2_with (fail)
  go_ret
  exact ⟨rfl, hwd _⟩

theorem isAggG : ∀ w, (isAgg 23).run Try.prog w = .ok true w := by intro w; exact Try.isAgg23 w
theorem sizeOfG : ∀ w, (Go.sizeOf 23).run Try.prog w = .ok 4 w := by intro w; exact Try.sizeOf23 w
theorem hlenG (n : Nat) (W : World) (h : n ≤ 12) : Calls Try.prog 101 #[.int .u64 n] W fun e w' => (∃ l : Int, e = .returned (.int .i64 l)) ∧ w' = W :=
  (Any.bits_Len Try.bitsLen n W (by omega) (by omega)).mono fun _ _ ⟨he, hw⟩ => ⟨⟨_, he⟩, hw⟩

/-- A layer that is put in order. -/
theorem sort_c (base : Nat) (A : Option Addr) (l : List G) (c : Nat) (w : World) (hlen : l.length ≤ 12) (h0 : 0 < l.length) (hown : w.ownsRow base 23 4 (.slice A l.length c) l.length (cellsG l)) :
    Calls Try.prog 93 #[.slice A l.length c, .func (.func 94) #[] #[]] w
      fun e w' => e = .returned (.tuple #[]) ∧ w'.ownsRow base 23 4 (.slice A l.length c) l.length (cellsG (sortG l)) ∧ w.grownBy w' (Value.slice A l.length c).ownBlock := by
  rcases hown.2 with ⟨_, hn0⟩ | ⟨g, cap, cur, hv, hbg, hheap, hle, hm, hsz, hpre⟩
  · omega
  injection hv with hA _ hc
  subst hA hc
  have hblk : g < w.heap.size := (Array.getElem?_eq_some_iff.1 hheap).1
  have eg : ∀ args w, (callFunc 94 args).run Try.prog w = .ok (.enter 94 args) w := enters_of Try.func94 (by kernel_rfl) rfl
  have hH : HoldsK encG 4 w g 0 l.toArray := by
    show Holds id w g 0 (flatK encG 4 l.toArray)
    rw [flat_cells]
    intro j hj
    have hj' : j < (cellsG l).length := by simpa using hj
    refine ⟨?_, by simp [World.frozen?, hheap]⟩
    have h1 := hown.cells (g := g) rfl j ((cellsG l)[j]) (List.getElem?_eq_getElem hj')
    have e1 : (⟨g, 0, none⟩ : Addr).add j = ⟨g, j, none⟩ := by unfold Addr.add; split <;> simp_all
    rw [e1] at h1
    rw [Nat.zero_add, h1]
    have e2 : (cellsG l).toArray[j]! = (cellsG l)[j] := by rw [getElem!_pos _ j hj]; rfl
    rw [e2]; rfl
  have hcon := AnyQ.slices_SortFunc_small Try.sortFn 4 isAggG sizeOfG encG (fun _ => rfl) (fun x v hv => by simp [encG] at hv; rcases hv with rfl | rfl | rfl | rfl <;> rfl) cmpGG 94 #[] g 0 c l.toArray w eg (fun _ _ _ _ x y => compare_x x y _) hH hblk (by simpa using hlen) hlenG
  refine Calls.mono hcon ?_
  rintro e w' ⟨rfl, n, os, rfl⟩
  refine ⟨rfl, ?_, ?_⟩
  · refine ⟨by rw [cellsG_length, sortG_len], .inr ⟨g, c, putCells id 0 (flatK encG 4 (insertionSort (ltOf cmpGG) l.toArray 0 l.toArray.size)) cur, rfl, hbg, ?_, hle, hm, by simpa [putCells] using hsz, ?_⟩⟩
    · show (grow (putRow id (Go.Sort.ahead w n) g 0 _) os).heap[g]? = _
      rw [heap_grow_old _ _ (by show g < (w.heap.modify g _).size; simpa using hblk)]
      exact putRow_at hheap
    · have hs := sortG_ins l.toArray
      have hd : insertionSort (ltOf cmpGG) l.toArray 0 l.toArray.size = (sortG l).toArray := by rw [← hs]; rfl
      rw [hd, flat_cells]
      have h := putCells_take (cellsG (sortG l)).toArray cur (by simp [sortG_len]; rw [hsz]; exact Nat.mul_le_mul_right 4 hle)
      simpa [sortG_len] using h
  · refine ⟨rfl, rfl, rfl, ?_, fun k hk hne => ?_⟩
    · show w.heap.size ≤ (grow (putRow id (Go.Sort.ahead w n) g 0 _) os).heap.size
      rw [size_grow]
      show w.heap.size ≤ (w.heap.modify g _).size + _
      simp
    · show (grow (putRow id (Go.Sort.ahead w n) g 0 _) os).heap[k]? = _
      rw [heap_grow_old _ _ (by show k < (w.heap.modify g _).size; simpa using hk)]
      exact putRow_far (w := Go.Sort.ahead w n) (fun e => hne (by rw [e]; rfl))
end Go.Proofs.Yteoajadcdjaalaa
