/- Renaming of zones: links compared and sorted, orders, Rename of package zone and of the specification, renamed places are as far from each other; the walk of the law. -/
import Derived.Test.YtjgpfnnokdcgoaaTrapA
import Derived.Test.YtjgpfnnokdcgoaaTab
import Derived.BigQuiet
import Derived.Deep.QuietTactic
import Derived.StillTailTactics
import Derived.Sort.Grow
import Derived.Test.YtjgpfnnokdcgoaaShelfF
import Derived.Shelf.SlSortCmp.NoneTotal
import Derived.Sort.OwnSortedInts
import Derived.Test.YtjgpfnnokdcgoaaRval2
import Derived.Test.YtjgpfnnokdcgoaaNear3
import Derived.Test.YtjgpfnnokdcgoaaIdx
import Derived.Test.YtjgpfnnokdcgoaaLow
import Derived.Test.YtjgpfnnokdcgoaaRowM
import Derived.Test.YtjgpfnnokdcgoaaReachL
import Derived.Test.YtjgpfnnokdcgoaaDistA
import Derived.Test.YtjgpfnnokdcgoaaRlink
import Derived.Test.YtjgpfnnokdcgoaaKnownZ
import Derived.Test.YtjgpfnnokdcgoaaFarth
import Derived.Test.YtjgpfnnokdcgoaaMovesW
/- Renaming of zones: links compared and sorted, orders, Rename of package zone and of the specification, renamed places are as far from each other. -/
/- Links are compared, and sorted. -/
namespace Go.Proofs.Ytjgpfnnokdcgoaa
open Go.RowKit Go.Sort

theorem isNaN_c (x : Int) (w : World) : Calls Try.prog 117 #[.int .i64 x] w fun e w' => e = .returned (.bool false) ∧ w = w' := by
  go_enter Try.func117, Try.ntmps117
  go_wp2
  go_ret
  exact ⟨by simp, rfl⟩
def cmpI (x y : Int) : Int := if x < y then -1 else if y < x then 1 else 0
theorem cmp_c (x y : Int) (w : World) : Calls Try.prog 102 #[.int .i64 x, .int .i64 y] w fun e w' => e = .returned (.int .i64 (cmpI x y)) ∧ w = w' := by
  by_cases h1 : x < y
  · go_enter Try.func102, Try.ntmps102
    go_wp2_with (go_at_call 117; refine (isNaN_c _ _).mono ?_; rintro e w' ⟨rfl, rfl⟩)
    go_ret
    exact ⟨ret_i (by unfold cmpI; rw [if_pos (by omega)]), rfl⟩
  · by_cases h2 : y < x
    · go_enter Try.func102, Try.ntmps102
      go_wp2_with (go_at_call 117; refine (isNaN_c _ _).mono ?_; rintro e w' ⟨rfl, rfl⟩)
      go_ret
      exact ⟨ret_i (by unfold cmpI; rw [if_neg (by omega), if_pos (by omega)]), rfl⟩
    · go_enter Try.func102, Try.ntmps102
      go_wp2_with (go_at_call 117; refine (isNaN_c _ _).mono ?_; rintro e w' ⟨rfl, rfl⟩)
      go_ret
      exact ⟨ret_i (by unfold cmpI; rw [if_neg (by omega), if_neg (by omega)]), rfl⟩

/-- The first number that is not 0; else 0. -/
def orL : List Int → Int
  | [] => 0
  | x :: t => if x != 0 then x else orL t
theorem orL_skip : ∀ (xs : List Int) (k : Nat), (∀ j, j < k → xs.getD j 0 = 0) → orL xs = orL (xs.drop k)
  | xs, 0, _ => rfl
  | [], k + 1, _ => by simp
  | x :: t, k + 1, h => by
    have h0 : x = 0 := h 0 (by omega)
    rw [orL, h0, List.drop_succ_cons]
    exact orL_skip t k (fun j hj => h (j + 1) (by omega))
set_option maxHeartbeats 1000000 in
theorem or_c (A : Option Addr) (xs : List Int) (cap : Nat) (w : World) (hlen : xs.length ≤ 1000) (hr : Rd w A (ints xs)) :
    Calls Try.prog 101 #[.slice A xs.length cap] w fun e w' => e = .returned (.int .i64 (orL xs)) ∧ w = w' := by
  go_enter Try.func101, Try.ntmps101
  go_wp2
  go_loop [8] (fun i => ∃ k : Nat, k ≤ xs.length ∧ i = .int .i64 k ∧ Hid (∀ j, j < k → xs.getD j 0 = 0)) (fun i => xs.length - (intOf i).toNat)
  case atStart => exact ⟨0, Nat.zero_le _, rfl, fun j h => by omega⟩
  case round =>
    obtain ⟨k, hk, rfl, hz⟩ := hrel
    by_cases hlt : k < xs.length
    · obtain ⟨b, o, rfl, _, hc⟩ := hr.at_ (k := k) (by simpa using hlt)
      have hck := hc k _ (ints_get hlt)
      clear hc
      have H1 : Hid (∀ y, xs.getD k 0 = y → y = 0 → ∀ j, j < k + 1 → xs.getD j 0 = 0) := fun y hy h0 j hj => by
        rcases Nat.lt_or_ge j k with h | h
        · exact hz.out j h
        · rw [show j = k by omega, hy, h0]
      have H2 : Hid (∀ y, xs.getD k 0 = y → (y != 0) = true → orL xs = y) := fun y hy h0 => by
        rw [orL_skip xs k hz.out, List.drop_eq_getElem_cons hlt, orL]
        have e : xs[k] = y := by simpa [hlt] using hy
        rw [e, if_pos h0]
      generalize hx : xs.getD k 0 = x at hck
      have HX := Lib.hid hx
      clear hx
      by_cases h0 : (x != 0) = true
      · go_wp2
        go_ret
        exact ⟨ret_i (H2.out x HX.out h0), rfl⟩
      · have h0' : (x != 0) = false := by simpa using h0
        clear h0
        go_wp2
        go_round
        case rel => exact ⟨k + 1, by omega, by go_num, H1.out x HX.out (by simpa using h0')⟩
        case measure => simp [intOf]; omega
    · obtain rfl : k = xs.length := by omega
      go_wp2
      go_ret
      exact ⟨ret_i (by rw [orL_skip xs xs.length hz.out, List.drop_length]; rfl), rfl⟩
/-- How two links compare. -/
def cmpL (x y : Int × Int) : Int := orL [cmpI x.1 y.1, cmpI x.2 y.2]

set_option maxRecDepth 100000 in
set_option maxHeartbeats 1000000 in
theorem compareL_c (x y : Int × Int) (w : World) : Calls Try.prog 88 #[.agg #[.int .i64 x.1, .int .i64 x.2], .agg #[.int .i64 y.1, .int .i64 y.2]] w
    fun e w' => e = .returned (.int .i64 (cmpL x y)) ∧ ∃ q os', w' = grow (w.drewN q) os' := by
  obtain ⟨a, b⟩ := x
  obtain ⟨a', b'⟩ := y
  simp only []
  have x0 := (Bx.new w 69 #[.int .i64 a, .int .i64 b]).alloc (.cells #[.int .i64 a', .int .i64 b'] 69)
  have x1 : Bx ((w.alloc (.cells #[.int .i64 a, .int .i64 b] 69)).alloc (.cells #[.int .i64 a', .int .i64 b'] 69)) (w.heap.size + 1) 69 #[.int .i64 a', .int .i64 b'] := Bx.newAt (by simp)
  have HG : Hid (∀ o, ((w.alloc (.cells #[.int .i64 a, .int .i64 b] 69)).alloc (.cells #[.int .i64 a', .int .i64 b'] 69)).drew.alloc o = grow (w.drewN 1) (#[.cells #[.int .i64 a, .int .i64 b] 69, .cells #[.int .i64 a', .int .i64 b'] 69, o])) := by
    intro o
    have e : ((w.alloc (.cells #[.int .i64 a, .int .i64 b] 69)).alloc (.cells #[.int .i64 a', .int .i64 b'] 69)).drew = grow w.drew #[.cells #[.int .i64 a, .int .i64 b] 69, .cells #[.int .i64 a', .int .i64 b'] 69] := by
      rw [alloc_eq_grow, alloc_eq_grow w, grow_grow]; rfl
    rw [e, alloc_eq_grow, grow_grow]; rfl
  obtain ⟨i1, i2, _⟩ := x0.two
  obtain ⟨j1, j2, _⟩ := x1.two
  go_enter Try.func88, Try.ntmps88
  go_wp2_with (fail)
  generalize (w.alloc (.cells #[.int .i64 a, .int .i64 b] 69)).alloc (.cells #[.int .i64 a', .int .i64 b'] 69) = w0 at *
  refine wp_region_still_tail 10 (by kernel_rfl) (by kernel_rfl) ?_
  simp only [List.take_succ_cons, List.take_zero, List.drop_succ_cons, List.drop_zero]
  repeat still_step
  still_call ((cmp_c _ _ _).mono fun e w' h => ⟨h.1, h.2.symm⟩)
  repeat still_step
  still_call ((cmp_c _ _ _).mono fun e w' h => ⟨h.1, h.2.symm⟩)
  repeat still_step
  refine wpStill_nil ?_
  change wpList _ _ _ _ _ w0.drew
  clear i1 i2 j1 j2 x0 x1
  generalize w0.drew = w1 at *
  have HO := Lib.hid (or_c _ [cmpI a a', cmpI b b'] 2 _ (by simp) (Bx.rd (cs := ints [cmpI a a', cmpI b b']) (Bx.new w1 3 _)))
  go_wp2_with (fail)
  refine HO.out.mono ?_
  rintro e w' ⟨rfl, rfl⟩
  go_wp2_with (fail)
  go_ret
  exact ⟨rfl, 1, _, HG.out _⟩

def ltP (x y : Int × Int) : Bool := decide (x.1 < y.1) || (decide (x.1 = y.1) && decide (x.2 < y.2))
theorem ltP_iff {x y : Int × Int} : ltP x y = true ↔ x.1 < y.1 ∨ (x.1 = y.1 ∧ x.2 < y.2) := by simp [ltP]
theorem cmpL_lt (x y : Int × Int) : decide (cmpL x y < 0) = ltP x y := by
  rw [Bool.eq_iff_iff, ltP_iff, decide_eq_true_eq, cmpL, cmpI, cmpI]
  simp only [orL]
  by_cases h1 : x.1 < y.1
  · simp [h1]
  · by_cases h2 : y.1 < x.1
    · simp [h1, h2]; omega
    · by_cases h3 : x.2 < y.2
      · simp [h1, h2, h3]; omega
      · by_cases h4 : y.2 < x.2
        · simp [h1, h2, h3, h4]
        · simp [h1, h2, h3, h4]
/-- Lists of links in ascending order that hold the same links are the same. -/
theorem ltP_same : ∀ {a b : List (Int × Int)}, (a.Pairwise fun x y => ltP x y = true) → (b.Pairwise fun x y => ltP x y = true) → (∀ x, x ∈ a ↔ x ∈ b) → a = b
  | [], [], _, _, _ => rfl
  | [], y :: b, _, _, h => absurd ((h y).2 (by simp)) (by simp)
  | x :: a, [], _, _, h => absurd ((h x).1 (by simp)) (by simp)
  | x :: a, y :: b, ha, hb, h => by
    obtain ⟨a1, a2⟩ := List.pairwise_cons.1 ha
    obtain ⟨b1, b2⟩ := List.pairwise_cons.1 hb
    have hirr : ∀ z : Int × Int, ltP z z = false := fun z => by simp [ltP]
    have hxy : x = y := by
      rcases List.mem_cons.1 ((h x).1 (by simp)) with e | e
      · exact e
      · rcases List.mem_cons.1 ((h y).2 (by simp)) with e2 | e2
        · exact e2.symm
        · have h1 := ltP_iff.1 (b1 x e)
          have h2 := ltP_iff.1 (a1 y e2)
          omega
    subst hxy
    rw [ltP_same a2 b2 fun z => ?_]
    constructor
    · intro hz
      rcases List.mem_cons.1 ((h z).1 (List.mem_cons_of_mem _ hz)) with e | e
      · have := a1 z hz; rw [e, hirr] at this; exact absurd this (by simp)
      · exact e
    · intro hz
      rcases List.mem_cons.1 ((h z).2 (List.mem_cons_of_mem _ hz)) with e | e
      · have := b1 z hz; rw [e, hirr] at this; exact absurd this (by simp)
      · exact e
def sortP (l : List (Int × Int)) : List (Int × Int) := l.mergeSort fun x y => !ltP y x
theorem sortP_len (l : List (Int × Int)) : (sortP l).length = l.length := List.length_mergeSort _
theorem sortP_eq {l m : List (Int × Int)} (hn : l.Nodup) (hm : m.Pairwise fun x y => ltP x y = true) (h : ∀ x, x ∈ l ↔ x ∈ m) : sortP l = m := by
  have hs := List.pairwise_mergeSort (le := fun x y : Int × Int => !ltP y x) (fun a b c h1 h2 => by
    simp only [Bool.not_eq_true', Bool.eq_false_iff, ne_eq, ltP_iff] at h1 h2 ⊢; omega) (fun a b => by
    by_cases h1 : ltP b a = true
    · have : ltP a b = false := by rw [Bool.eq_false_iff]; intro h2; rw [ltP_iff] at h1 h2; omega
      simp [this]
    · simp [h1]) l
  have hp := List.mergeSort_perm l fun x y => !ltP y x
  refine ltP_same ?_ hm fun x => by rw [← h x]; exact hp.mem_iff
  have hn2 : (sortP l).Nodup := hp.nodup_iff.2 hn
  refine (hs.and hn2).imp fun {a b} hab => ?_
  obtain ⟨h1, h2⟩ := hab
  have h3 : ¬ ltP b a = true := by simpa using h1
  rw [ltP_iff] at h3 ⊢
  have h4 : ¬ (a.1 = b.1 ∧ a.2 = b.2) := fun h => h2 (Prod.ext h.1 h.2)
  omega
end Go.Proofs.Ytjgpfnnokdcgoaa

/- slices.SortFunc at a row of links that the call has made. -/
namespace Go.Proofs.Ytjgpfnnokdcgoaa
open Go.RowKit Go.Sort

def encL (x : Int × Int) : List Value := [.int .i64 x.1, .int .i64 x.2]
theorem flatP (M : List (Int × Int)) : flatK encL 2 M.toArray = (cellsP M).toArray := by
  refine ext_get! (by simp) fun t ht => ?_
  have ht' : t < M.length * 2 := by simpa using ht
  rw [get_flatK _ _ _ t (by simpa using ht')]
  obtain ⟨h0, h1⟩ := cellsP_get M (t / 2) (by omega)
  have hd : M.toArray[t / 2]! = M.getD (t / 2) (0, 0) := by simp [show t / 2 < M.length by omega]
  rw [hd]
  have hg : (cellsP M).toArray[t]! = ((cellsP M)[t]?).getD default := by simp
  rw [hg]
  rcases (by omega : t % 2 = 0 ∧ t = t / 2 * 2 ∨ t % 2 = 1 ∧ t = t / 2 * 2 + 1) with ⟨e, e2⟩ | ⟨e, e2⟩
  · rw [← e2] at h0; rw [e, h0]; rfl
  · rw [← e2] at h1; rw [e, h1]; rfl
theorem heap_sortedK {w : World} {g n : Nat} {os : Array Obj} {cur : Array Value} {e : TypeId} {fr : Nat × Nat} (d : Array Value) (hb : w.heap[g]? = some (.cells cur e fr)) :
    (grow (putRow id (Sort.ahead w n) g 0 d) os).heap[g]? = some (.cells (putCells id 0 d cur) e fr) := by
  have hg : g < w.heap.size := (Array.getElem?_eq_some_iff.1 hb).1
  rw [heap_grow_old _ _ (by simpa using hg)]
  simp [putRow, mapBlock, Sort.ahead, Array.getElem?_modify, hb, onCells]
theorem grownBy_sortedK {w : World} {g n : Nat} {os : Array Obj} (d : Array Value) : w.grownBy (grow (putRow id (Sort.ahead w n) g 0 d) os) (some g) := by
  refine ⟨rfl, rfl, rfl, by simp, fun k hk hne => ?_⟩
  rw [heap_grow_old _ _ (by simpa using hk)]
  have : g ≠ k := fun e => hne (by rw [e])
  simp [putRow, mapBlock, Sort.ahead, Array.getElem?_modify, this]
theorem take_putCellsK (cur : Array Value) (ts : List Value) (h : ts.length ≤ cur.size) : (putCells id 0 ts.toArray cur).toList.take ts.length = ts := by
  apply List.ext_getElem?
  intro j
  by_cases hj : j < ts.length
  · rw [List.getElem?_take_of_lt hj, Array.getElem?_toList]
    simp [putCells, hj, show j < cur.size by omega]
  · rw [List.getElem?_take_eq_none (by omega), List.getElem?_eq_none (by omega)]
theorem ltOf_cmpL : ltOf cmpL = ltP := by
  funext x y
  exact cmpL_lt x y
theorem swoP : SWO (ltOf cmpL) where
  irrefl x := by rw [ltOf_cmpL]; simp [ltP]
  trans x y z h1 h2 := by rw [ltOf_cmpL] at *; rw [ltP_iff] at *; omega
  ntrans x y z h1 h2 := by
    rw [ltOf_cmpL] at *
    rw [Bool.eq_false_iff, ne_eq, ltP_iff] at *
    omega
theorem totP (x y : Int × Int) (h1 : ltOf cmpL x y = false) (h2 : ltOf cmpL y x = false) : x = y := by
  rw [ltOf_cmpL] at *
  rw [Bool.eq_false_iff, ne_eq, ltP_iff] at *
  exact Prod.ext (by omega) (by omega)

theorem sortL_c (base c : Nat) (A : Option Addr) (M : List (Int × Int)) (w : World) (hlen : M.length ≤ 1000) (ho : w.ownsRow base 69 2 (.slice A M.length c) M.length (cellsP M)) :
    Calls Try.prog 87 #[.slice A M.length c, .func (.func 88) #[] #[]] w fun e w' => e = .returned (.tuple #[]) ∧ w'.ownsRow base 69 2 (.slice A M.length c) M.length (cellsP (sortP M)) ∧ w.grownBy w' (Value.slice A M.length c).ownBlock := by
  by_cases h0 : M = []
  · subst h0
    exact (AnyF.slices_SortFunc_none Try.sortL A c _ w).mono fun e w' ⟨he, hw⟩ => ⟨he, by subst hw; rw [show sortP [] = [] by simp [sortP]]; exact ho, by subst hw; exact World.grownBy.refl _ _⟩
  · have hpos : 0 < M.length := List.length_pos_iff.2 h0
    have ho' := ho
    rcases ho'.2 with ⟨h, _⟩ | ⟨g, cap, cur, hv, hbg, hheap, hnc, hcm, hcs, htk⟩
    · simp at h; omega
    · simp only [Value.slice.injEq] at hv
      obtain ⟨rfl, _, rfl⟩ := hv
      have hgl : g < w.heap.size := (Array.getElem?_eq_some_iff.1 hheap).1
      have hH : HoldsK encL 2 w g 0 M.toArray := by
        unfold HoldsK
        rw [flatP]
        intro j hj
        have hj' : j < (cellsP M).length := by simpa using hj
        refine ⟨?_, ho.frozenAt _⟩
        rw [Nat.zero_add, ho.cellAt j (by rw [ho.1] at hj'; exact hj')]
        have e : (cellsP M).toArray[j]! = ((cellsP M)[j]?).getD default := by simp
        rw [e, List.getElem?_eq_getElem hj']
        rfl
      have hlenA : M.toArray.size = M.length := by simp
      have hcall := AnyQ.slices_SortFunc_total Try.sortL 2 Try.isAgg69 Try.sizeOf69 encL (fun _ => rfl) (fun x v hv => by simp [encL] at hv; rcases hv with rfl | rfl <;> rfl) cmpL swoP 88 #[] g 0 c M.toArray w (enters_of Try.func88 (by kernel_rfl) rfl) (fun _ _ _ _ x y => compareL_c x y _) hH hgl (by simp; omega) totP
      rw [hlenA] at hcall
      refine hcall.mono fun e w' ⟨he, n, os, hw⟩ => ⟨he, ?_, ?_⟩
      · have hs : (M.toArray.toList.mergeSort fun x y => !(ltOf cmpL) y x) = sortP M := by rw [ltOf_cmpL]; rfl
        rw [hs] at hw
        rw [hw]
        show (grow (putRow id (Sort.ahead w n) g 0 (flatK encL 2 (sortP M).toArray)) os).ownsRow base 69 2 _ _ _
        rw [flatP]
        have hsl : (cellsP (sortP M)).length = M.length * 2 := by rw [cellsP_length, sortP_len]
        refine ⟨hsl, .inr ⟨g, c, _, rfl, hbg, heap_sortedK _ hheap, hnc, hcm, by simp [putCells, hcs], ?_⟩⟩
        rw [← hsl]
        exact take_putCellsK cur _ (by rw [hsl, hcs]; exact Nat.mul_le_mul_right 2 hnc)
      · rw [hw]
        exact grownBy_sortedK _
end Go.Proofs.Ytjgpfnnokdcgoaa

/- Which lists give each zone a number. -/
namespace Go.Proofs.Ytjgpfnnokdcgoaa
open Go.RowKit Go.Maps

/-- Does a list have each zone once? -/
def orderB (Z : Int) (q : List Int) : Bool := decide ((q.length : Int) = Z) && (q.all (zoneOk Z) && onceB q)
theorem orderB_iff {Z : Int} {q : List Int} : orderB Z q = true ↔ (q.length : Int) = Z ∧ (∀ x ∈ q, 0 ≤ x ∧ x < Z) ∧ q.Nodup := by
  rw [orderB, Bool.and_eq_true, Bool.and_eq_true, decide_eq_true_eq, List.all_eq_true, onceB, decide_eq_true_eq]
  constructor
  · rintro ⟨h1, h2, h3⟩; exact ⟨h1, fun x hx => zoneOk_iff.1 (h2 x hx), h3⟩
  · rintro ⟨h1, h2, h3⟩; exact ⟨h1, fun x hx => zoneOk_iff.2 (h2 x hx), h3⟩
def rangeI (n : Nat) : List Int := (List.range n).map fun z : Nat => (z : Int)
theorem rangeI_mem {n : Nat} {x : Int} : x ∈ rangeI n ↔ 0 ≤ x ∧ x < (n : Int) := by
  rw [rangeI, List.mem_map]
  constructor
  · rintro ⟨z, hz, rfl⟩; rw [List.mem_range] at hz; omega
  · rintro ⟨h1, h2⟩; exact ⟨x.toNat, by rw [List.mem_range]; omega, by omega⟩
theorem rangeI_nodup (n : Nat) : (rangeI n).Nodup := by
  rw [rangeI, List.nodup_iff_pairwise_ne, List.pairwise_map]
  exact (List.nodup_range).imp fun h => by omega
theorem rangeI_len (n : Nat) : (rangeI n).length = n := by simp [rangeI]
/-- In a list of as many numbers as there are zones each zone is there exactly if it has each once. -/
theorem orderB_all {n : Nat} {q : List Int} (hl : q.length = n) : orderB n q = true ↔ ∀ x, 0 ≤ x → x < (n : Int) → x ∈ q := by
  rw [orderB_iff]
  constructor
  · rintro ⟨_, h2, h3⟩ x h0 h1
    refine Classical.byContradiction fun hx => ?_
    have := nodup_sub (l := x :: q) (m := rangeI n) (List.nodup_cons.2 ⟨hx, h3⟩) fun y hy => by
      rcases List.mem_cons.1 hy with rfl | hy
      · exact rangeI_mem.2 ⟨h0, h1⟩
      · exact rangeI_mem.2 (h2 y hy)
    rw [rangeI_len, List.length_cons] at this
    omega
  · intro h
    have hsub : ∀ x ∈ rangeI n, x ∈ q := fun x hx => by obtain ⟨h0, h1⟩ := rangeI_mem.1 hx; exact h x h0 h1
    refine ⟨by omega, fun x hx => Classical.byContradiction fun hn => ?_, ?_⟩
    · have := nodup_sub (l := rangeI n) (m := q.erase x) (rangeI_nodup n) fun y hy => (List.mem_erase_of_ne (by rintro rfl; exact hn (rangeI_mem.1 hy))).2 (hsub y hy)
      rw [rangeI_len, List.length_erase_of_mem hx] at this
      have := List.length_pos_of_mem hx
      omega
    · rw [List.nodup_iff_count]
      intro x
      refine Classical.byContradiction fun hc => ?_
      have hx : x ∈ q := List.count_pos_iff.1 (by omega)
      have := nodup_sub (l := rangeI n) (m := q.erase x) (rangeI_nodup n) fun y hy => by
        by_cases he : y = x
        · subst he
          exact List.count_pos_iff.1 (by rw [List.count_erase_self]; omega)
        · exact (List.mem_erase_of_ne he).2 (hsub y hy)
      rw [rangeI_len, List.length_erase_of_mem hx] at this
      have := List.length_pos_of_mem hx
      omega

set_option maxRecDepth 100000 in
set_option maxHeartbeats 2000000 in
theorem isRenaming_c (Z : Nat) (A : Option Addr) (q : List Int) (c : Nat) (w : World) (hlen : q.length ≤ 1000) (hZ : Z ≤ 1000) (hr : Rd w A (ints q)) :
    Calls Try.prog 86 #[.int .i64 Z, .slice A q.length c] w fun e w' => e = .returned (.bool (orderB Z q)) ∧ Below w.heap.size w w' := by
  have HC := fun x w1 h => Lib.hid (contains_c A q c x w1 hlen h)
  by_cases hl : q.length = Z
  · subst hl
    have hq : ((q.length : Int) != (q.length : Int)) = false := by simp
    have HA := Lib.hid (orderB_all (q := q) rfl)
    generalize orderB q.length q = O at *
    go_enter Try.func86, Try.ntmps86
    go_wp2_with (fail)
    go_loopg [11] q.length (fun gk iv wr => ∃ k : Nat, Hid (k + gk = q.length) ∧ iv = .int .i64 (k : Int) ∧ Hid (∀ x, 0 ≤ x → x < (k : Int) → x ∈ q) ∧ Below w.heap.size w wr)
    case atStart => exact ⟨0, by simp [Hid], rfl, fun x h0 h1 => by omega, Below.refl _ _⟩
    case round =>
      obtain ⟨k, HK, rfl, HO, hb⟩ := hrel
      rcases gk with _ | gi
      · obtain rfl : k = q.length := HK.out
        have HO2 : Hid (O = true) := HA.out.2 HO.out
        go_wp2_with (fail)
        go_ret
        exact ⟨by rw [HO2.out]; rfl, hb⟩
      · have hkl : k < q.length := by have h := HK.out; omega
        have hkl' : (k : Int) < (q.length : Int) := by omega
        by_cases hm : (k : Int) ∈ q
        · have HCk := fun w1 h => HC k w1 h
          rw [show q.contains (k : Int) = true by simpa using hm] at HCk
          have HO2 : Hid (∀ x, 0 ≤ x → x < ((k + 1 : Nat) : Int) → x ∈ q) := fun x h0 h1 => by
            by_cases e : x = k
            · rw [e]; exact hm
            · exact HO.out x h0 (by omega)
          clear hm
          go_wp2_with (fail)
          refine (HCk _ (hr.later hb)).out.mono ?_
          rintro e w1 ⟨rfl, hb1⟩
          go_wp2_with (fail)
          go_roundg gi
          case rel => exact ⟨k + 1, by have h := HK.out; show _ = _; omega, by go_num, HO2, bl_call hb hb1⟩
          case measure => omega
        · have HCk := fun w1 h => HC k w1 h
          rw [show q.contains (k : Int) = false by simpa using hm] at HCk
          have HO2 : Hid (O = false) := by
            show _ = _
            rw [Bool.eq_false_iff]
            exact fun h => hm (HA.out.1 h k (by omega) hkl')
          clear hm
          go_wp2_with (fail)
          refine (HCk _ (hr.later hb)).out.mono ?_
          rintro e w1 ⟨rfl, hb1⟩
          go_wp2_with (fail)
          go_ret
          exact ⟨by rw [HO2.out]; rfl, bl_call hb hb1⟩
  · have hq : ((q.length : Int) != (Z : Int)) = true := by simp; omega
    have hO : orderB Z q = false := by rw [Bool.eq_false_iff]; intro h; have := (orderB_iff.1 h).1; omega
    rw [hO]
    clear hO
    go_enter Try.func86, Try.ntmps86
    go_wp2_with (fail)
    go_ret
    exact ⟨rfl, Below.refl _ _⟩

set_option maxRecDepth 100000 in
set_option maxHeartbeats 4000000 in
theorem isOrder_c (Z : Int) (A : Option Addr) (q : List Int) (c : Nat) (w : World) (hlen : q.length ≤ 1000) (hcap : q.length ≤ c) (hr : Rd w A (ints q)) :
    Calls Try.prog 89 #[.slice A q.length c, .int .i64 Z] w fun e w' => e = .returned (.bool (orderB Z q)) ∧ Below w.heap.size w w' := by
  by_cases hl : (q.length : Int) = Z
  · subst hl
    have hq : ((q.length : Int) != (q.length : Int)) = false := by simp
    have HE : Hid (orderB q.length q = (q.all (zoneOk q.length) && onceB q)) := by show _ = _; rw [orderB]; simp
    generalize orderB q.length q = O at *
    go_enter Try.func89, Try.ntmps89
    go_wp2_with (fail)
    go_loopg [5] q.length (fun gk iv wr => ∃ k : Nat, Hid (k + gk = q.length) ∧ iv = .int .i64 (k : Int) ∧ Hid ((q.take k).all (zoneOk q.length) = true ∧ onceB (q.take k) = true) ∧ Below w.heap.size w wr)
    case atStart => exact ⟨0, by simp [Hid], rfl, by simp [Hid, onceB], Below.refl _ _⟩
    case round =>
      obtain ⟨k, HK, rfl, HO, hb⟩ := hrel
      rcases gk with _ | gi
      · obtain rfl : k = q.length := HK.out
        have HO2 : Hid (O = true) := by
          show _ = _
          have h := HO.out
          rw [List.take_length] at h
          rw [HE.out, h.1, h.2]; rfl
        go_wp2_with (fail)
        go_ret
        exact ⟨by rw [HO2.out]; rfl, hb⟩
      · have hkl : k < q.length := by have h := HK.out; omega
        have hkl' : (k : Int) < (q.length : Int) := by omega
        obtain ⟨b, o, rfl, hbl, hc⟩ := (hr.later hb).at_ (k := k) (by simpa using hkl)
        have d0 := hc k _ (ints_get hkl)
        clear hc
        have HN := Lib.hid (once_snoc hkl (0 : Int))
        have HTw := Lib.hid (fun h => @once_twice _ _ q k hkl (0 : Int) h)
        have HNA := Lib.hid (all_snoc (f := zoneOk q.length) hkl (0 : Int))
        have HF := Lib.hid (fun h => all_not (f := zoneOk q.length) hkl (0 : Int) h)
        have htl : (q.take k).length = k := by simp; omega
        have HH : ∀ w1, Below w.heap.size w w1 → Hid (Calls Try.prog 66 #[.slice (some ⟨b, o, none⟩) k c, .int .i64 (q.getD k 0)] w1 fun e w' => e = .returned (.bool (decide (q.getD k 0 ∈ q.take k))) ∧ w1 = w') := fun w1 hb1 => by
          have h := has_c (some ⟨b, o, none⟩) (q.take k) c (q.getD k 0) w1 (by omega) (rd_take k (hr.later hb1))
          rw [htl] at h
          exact h
        clear htl
        have HD : ∀ w1, Below w.heap.size w w1 → Hid (w1.cell? ⟨b, o + k, none⟩ = some (.int .i64 (q.getD k 0))) := fun w1 hb1 => by
          obtain ⟨b', o', he, _, hc⟩ := (hr.later hb1).at_ (k := k) (by simpa using hkl)
          injection he with he
          injection he with e1 e2
          subst e1 e2
          exact hc k _ (ints_get hkl)
        generalize q.getD k 0 = x at *
        have HX : Hid (zoneOk q.length x = (decide (0 ≤ x) && decide (x < (q.length : Int)))) := rfl
        have hCC : Below w.heap.size w wr.drew := hb.drew
        have q1 : (0 : Int) ≤ (k : Int) := by omega
        have q2 : (k : Int) ≤ (c : Int) := by omega
        have q3 : k ≤ c := by omega
        by_cases h1 : x < 0
        · have HO2 : Hid (O = false) := by show _ = _; rw [HE.out, HF.out (by rw [HX.out]; simp; omega)]; rfl
          have qd : decide (x < 0) = true := by simpa using h1
          clear HN HTw HNA HF HX HH HD
          go_wp2_with (fail)
          go_quiet (fail)
          go_wp2_with (fail)
          go_ret
          exact ⟨by rw [HO2.out]; rfl, below_drewN hb _⟩
        · have qd : decide (x < 0) = false := by simpa using h1
          by_cases h2 : (q.length : Int) ≤ x
          · have HO2 : Hid (O = false) := by show _ = _; rw [HE.out, HF.out (by rw [HX.out]; simp; omega)]; rfl
            have qe : decide ((q.length : Int) ≤ x) = true := by simpa using h2
            clear HN HTw HNA HF HX HH HD
            go_wp2_with (fail)
            go_quiet (fail)
            go_wp2_with (fail)
            go_ret
            exact ⟨by rw [HO2.out]; rfl, below_drewN hb _⟩
          · have qe : decide ((q.length : Int) ≤ x) = false := by simpa using h2
            have HXT : Hid (zoneOk q.length x = true) := by show _ = _; rw [HX.out]; simp; omega
            by_cases hm : x ∈ q.take k
            · have HO2 : Hid (O = false) := by show _ = _; rw [HE.out, HTw.out hm]; simp
              rw [decide_eq_true hm] at HH
              clear HN HTw HNA HF HX hm d0
              go_wp2_with (fail)
              refine wp_region_low (hCC) (by kernel_rfl) (by kernel_rfl) ?_
              repeat (first
                | go_big_quiet_skip
                | (go_big_quiet_want
                   apply Exists.intro
                   refine And.intro (fun W hW => ?_) ?_
                   · (have p1 := (HD W hW).out)
                     go_simp
                     first
                       | exact rfl
                       | ((refine (HH W hW).out.mono ?_; rintro e w1 ⟨rfl, rfl⟩; exact ⟨rfl, hW⟩))
                   try go_simp
                   go_big_quiet_on))
              refine wpQuiet_nil ?_
              intro w9 hb9
              go_wp2_with (fail)
              go_ret
              exact ⟨by rw [HO2.out]; rfl, hb9⟩
            · have HO2 : Hid ((q.take (k + 1)).all (zoneOk q.length) = true ∧ onceB (q.take (k + 1)) = true) := by
                have h := HO.out
                exact ⟨by rw [HNA.out, h.1, HXT.out]; rfl, by rw [HN.out, h.2]; simp [hm]⟩
              rw [decide_eq_false hm] at HH
              clear HN HTw HNA HF HX hm d0
              go_wp2_with (fail)
              refine wp_region_low (hCC) (by kernel_rfl) (by kernel_rfl) ?_
              repeat (first
                | go_big_quiet_skip
                | (go_big_quiet_want
                   apply Exists.intro
                   refine And.intro (fun W hW => ?_) ?_
                   · (have p1 := (HD W hW).out)
                     go_simp
                     first
                       | exact rfl
                       | ((refine (HH W hW).out.mono ?_; rintro e w1 ⟨rfl, rfl⟩; exact ⟨rfl, hW⟩))
                   try go_simp
                   go_big_quiet_on))
              refine wpQuiet_nil ?_
              intro w9 hb9
              go_wp2_with (fail)
              go_roundg gi
              case rel => exact ⟨k + 1, by have h := HK.out; show _ = _; omega, by go_num, HO2, hb9⟩
              case measure => omega
  · have hq : ((q.length : Int) != Z) = true := by simpa using hl
    have hO : orderB Z q = false := by rw [Bool.eq_false_iff]; intro h; exact hl (orderB_iff.1 h).1
    rw [hO]
    clear hO
    go_enter Try.func89, Try.ntmps89
    go_wp2_with (fail)
    go_ret
    exact ⟨rfl, Below.refl _ _⟩
end Go.Proofs.Ytjgpfnnokdcgoaa

/- A trap with other numbers of the zones, of package zone. -/
namespace Go.Proofs.Ytjgpfnnokdcgoaa
open Go.RowKit Go.Maps

/-- The new number of a zone. -/
abbrev nuO (q : List Int) (u : Int) : Int := q.getD u.toNat 0
def renX (q : List Int) (x : Int × Int) : Int × Int := (min (nuO q x.1) (nuO q x.2), max (nuO q x.1) (nuO q x.2))
def renL (q : List Int) (l : List (Int × Int)) : List (Int × Int) := l.map (renX q)
def renE (Z : Int) (l : List (Int × Int)) (q : List Int) : Int := if trapE Z l = 0 then (if orderB Z q then 0 else 1) else trapE Z l
def renG (Z : Int) (l : List (Int × Int)) (q : List Int) : List (Int × Int) := if renE Z l q = 0 then sortP (renL q l) else []
def renZ (Z : Int) (l : List (Int × Int)) (q : List Int) : Int := if renE Z l q = 0 then Z else 0
theorem renE_cases (Z : Int) (l : List (Int × Int)) (q : List Int) : (trapE Z l ≠ 0 ∧ renE Z l q = trapE Z l ∧ renG Z l q = [] ∧ renZ Z l q = 0) ∨ (trapE Z l = 0 ∧ orderB Z q = false ∧ renE Z l q = 1 ∧ renG Z l q = [] ∧ renZ Z l q = 0) ∨
    (trapE Z l = 0 ∧ orderB Z q = true ∧ renE Z l q = 0 ∧ renG Z l q = sortP (renL q l) ∧ renZ Z l q = Z) := by
  by_cases h : trapE Z l = 0
  · cases hz : orderB Z q with
    | false =>
      have e : renE Z l q = 1 := by rw [renE, if_pos h, hz]; rfl
      exact .inr (.inl ⟨h, rfl, e, by rw [renG, e]; rfl, by rw [renZ, e]; rfl⟩)
    | true =>
      have e : renE Z l q = 0 := by rw [renE, if_pos h, hz]; rfl
      exact .inr (.inr ⟨h, rfl, e, by rw [renG, if_pos e], by rw [renZ, if_pos e]⟩)
  · have e : renE Z l q = trapE Z l := by rw [renE, if_neg h]
    exact .inl ⟨h, e, by rw [renG, e, if_neg h], by rw [renZ, e, if_neg h]⟩
theorem made_links (n : Nat) (hn : n ≤ 100000) (w : World) : ∃ w', (Instr.makeSlice 22 (.int .i64 n) (.int .i64 n)).run Try.prog w = .ok (.slice (some ⟨w.heap.size, 0, none⟩) n n) w' ∧
    w'.ownsRow w.heap.size 69 2 (.slice (some ⟨w.heap.size, 0, none⟩) n n) n (cellsP (List.replicate n (0, 0))) ∧ w.grownBy w' none := by
  obtain ⟨i0, hi, hz0, hz1, hz2⟩ := info_parts link_info
  obtain ⟨w', h1, h2, h3⟩ := run_make_full (P := Try.prog) w w.heap.size 22 69 i0 _ 2 Try.underlying22 hi hz0 hz1 .i64 .i64 n (by rw [hz2]; omega) (by unfold maxLen; omega) (Nat.le_refl _)
  rw [made_pairs] at h2
  exact ⟨w', h1, h2, h3⟩
theorem own_putP {w : World} {base c k n : Nat} {A : Option Addr} {M : List (Int × Int)} (h : w.ownsRow base 69 2 (.slice A n c) n (cellsP M)) (hn : M.length = n) (hk : k < n) (x y : Int) :
    ∃ g, A = some ⟨g, 0, none⟩ ∧ base ≤ g ∧ g < w.heap.size ∧ (w.cell? ⟨g, k * 2, none⟩ = some (.int .i64 (M.getD k (0, 0)).1) ∧ w.cell? ⟨g, k * 2 + 1, none⟩ = some (.int .i64 (M.getD k (0, 0)).2)) ∧ (w.frozen? ⟨g, k * 2, none⟩ = false ∧ w.frozen? ⟨g, k * 2 + 1, none⟩ = false) ∧
      ((w.setCell ⟨g, k * 2, none⟩ (.int .i64 x)).setCell ⟨g, k * 2 + 1, none⟩ (.int .i64 y)).ownsRow base 69 2 (.slice A n c) n (cellsP (M.set k (x, y))) := by
  have h' := h
  rcases h'.2 with ⟨he, _⟩ | ⟨g, cap, cur, hv, hb, hg, _⟩
  · simp at he; omega
  · simp only [Value.slice.injEq] at hv
    obtain ⟨rfl, _, rfl⟩ := hv
    have hgl : g < w.heap.size := (Array.getElem?_eq_some_iff.1 hg).1
    refine ⟨g, rfl, hb, hgl, ?_, ⟨h.frozenAt _, h.frozenAt _⟩, ?_⟩
    · obtain ⟨b, o, he, _, h0, h1⟩ := (own_rd h).1.pair (k := k) (by omega)
      injection he with he
      injection he with e1 e2
      subst e1 e2
      rw [Nat.zero_add] at h0 h1
      exact ⟨h0, h1⟩
    · rw [cellsP_set]
      exact ((h.stored _ _).1.stored _ _).1
theorem set_fill {M : List (Int × Int)} {k g : Nat} (x : Int × Int) (hk : M.length = k) : (M ++ List.replicate (g + 1) ((0 : Int), (0 : Int))).set k x = (M ++ [x]) ++ List.replicate g (0, 0) := by
  rw [List.set_append_right _ _ (by omega), hk, Nat.sub_self, List.replicate_succ, List.set_cons_zero]
  simp
theorem renL_step {q : List Int} {l : List (Int × Int)} {k : Nat} (hk : k < l.length) : (renL q l).take k ++ [renX q (l.getD k (0, 0))] = (renL q l).take (k + 1) := by
  rw [List.take_succ_eq_append_getElem (by simpa [renL] using hk)]
  simp [renL, hk]

set_option maxRecDepth 100000 in
set_option maxHeartbeats 8000000 in
theorem Rename_c (Z : Int) (A B : Option Addr) (l : List (Int × Int)) (q : List Int) (c d : Nat) (w : World) (hlen : l.length ≤ 1000) (hlen' : q.length ≤ 1000) (hr : Rd w A (cellsP l)) (hs : Rd w B (ints q)) :
    Calls Try.prog 57 #[trapV Z A l.length c, .slice B q.length d] w (OutT (renZ Z l q) (renG Z l q) (renE Z l q) w) := by
  have x0 : Bx ((w.alloc (.cells #[.int .i64 Z, .slice A l.length c] 24)).alloc (.cells #[.int .i64 0, .slice none 0 0] 24)) w.heap.size 24 #[.int .i64 Z, .slice A l.length c] := (Bx.newAt rfl).alloc _
  have z0 : Bx ((w.alloc (.cells #[.int .i64 Z, .slice A l.length c] 24)).alloc (.cells #[.int .i64 0, .slice none 0 0] 24)) (w.heap.size + 1) 24 #[.int .i64 0, .slice none 0 0] := Bx.newAt (by simp)
  have hb0 := bl_alloc (bl_alloc (Below.refl w.heap.size w) (.cells #[.int .i64 Z, .slice A l.length c] 24)) (.cells #[.int .i64 0, .slice none 0 0] 24)
  generalize hw0 : (w.alloc (.cells #[.int .i64 Z, .slice A l.length c] 24)).alloc (.cells #[.int .i64 0, .slice none 0 0] 24) = w0 at *
  have HV := Lib.hid (validate_c Z A l c w0 hlen (hr.later hb0))
  obtain ⟨c0, c1, _⟩ := x0.two
  rcases renE_cases Z l q with ⟨h1, hE, hG, hZ⟩ | ⟨h1, h2, hE, hG, hZ⟩ | ⟨h1, h2, hE, hG, hZ⟩
  · rw [hE, hG, hZ]
    clear hE hG hZ
    generalize trapE Z l = te at *
    go_enter Try.func57, Try.ntmps57
    go_wp2_with (fail)
    refine HV.out.mono ?_
    rintro e w1 ⟨rfl, hb1⟩
    have z1 := z0.call hb1
    obtain ⟨f0, f1, f2, f3⟩ := z1.two
    have zF := z1.set2 (.int .i64 0) (.slice none 0 0)
    have hbF := bl_set (bl_set (bl_call hb0 hb1) (g := w.heap.size + 1) (i := 0) (by omega) (.int .i64 0)) (g := w.heap.size + 1) (i := 1) (by omega) (.slice none 0 0)
    go_wp2_with (fail)
    refine bodyPost_ret (results_cell_tmp rfl _ _ (w.heap.size + 1) 24 _ (0, 0) _ _ rfl rfl zF Try.underlying24 rfl (by kernel_rfl)) rfl ?_
    exact ⟨none, 0, rfl, World.ownsRow_nil _ _ _ _, hbF⟩
  · rw [hE, hG, hZ]
    rw [h1] at HV
    obtain ⟨n, rfl, _, h6⟩ := trap_nat h1
    have HI := fun w1 h => Lib.hid (isRenaming_c n B q d w1 hlen' (by omega) h)
    rw [h2] at HI
    clear hE hG hZ h1 h2
    go_enter Try.func57, Try.ntmps57
    go_wp2_with (fail)
    refine HV.out.mono ?_
    rintro e w1 ⟨rfl, hb1⟩
    have hb01 := bl_call hb0 hb1
    have z1 := z0.call hb1
    clear c0 c1
    obtain ⟨c0, c1, _⟩ := (x0.call hb1).two
    go_wp2_with (fail)
    refine (HI _ (hs.later hb01)).out.mono ?_
    rintro e w2 ⟨rfl, hb2⟩
    have z2 := z1.call hb2
    obtain ⟨f0, f1, f2, f3⟩ := z2.two
    have zF := z2.set2 (.int .i64 0) (.slice none 0 0)
    have hbF := bl_set (bl_set (bl_call hb01 hb2) (g := w.heap.size + 1) (i := 0) (by omega) (.int .i64 0)) (g := w.heap.size + 1) (i := 1) (by omega) (.slice none 0 0)
    go_wp2_with (fail)
    refine bodyPost_ret (results_cell_tmp rfl _ _ (w.heap.size + 1) 24 _ (0, 0) _ _ rfl rfl zF Try.underlying24 rfl (by kernel_rfl)) rfl ?_
    exact ⟨none, 0, rfl, World.ownsRow_nil _ _ _ _, hbF⟩
  · rw [hE, hG, hZ]
    rw [h1] at HV
    obtain ⟨n, rfl, _, h6⟩ := trap_nat h1
    have HI := fun w1 h => Lib.hid (isRenaming_c n B q d w1 hlen' (by omega) h)
    rw [h2] at HI
    obtain ⟨_, hl, _⟩ := trapE_zero h1
    obtain ⟨hqn, _, _⟩ := orderB_iff.1 h2
    have hSL : (sortP (renL q l)).length = l.length := by rw [sortP_len, renL, List.length_map]
    have hRL : (renL q l).length = l.length := by rw [renL, List.length_map]
    have HSt := fun k (h : k < l.length) => Lib.hid (renL_step (q := q) h)
    have HSo := fun base c2 A2 w1 h => Lib.hid (sortL_c base c2 A2 (renL q l) w1 (by omega) h)
    rw [hRL] at HSo
    clear hE hG hZ h1 h2
    generalize hrr : renL q l = R at *
    clear hrr
    go_enter Try.func57, Try.ntmps57
    go_wp2_with (fail)
    refine HV.out.mono ?_
    rintro e w1 ⟨rfl, hb1⟩
    have hb01 := bl_call hb0 hb1
    have x1 := x0.call hb1
    have z1 := z0.call hb1
    clear c0 c1
    obtain ⟨c0, c1, _⟩ := x1.two
    go_wp2_with (fail)
    refine (HI _ (hs.later hb01)).out.mono ?_
    rintro e w2 ⟨rfl, hb2⟩
    have hb02 := bl_call hb01 hb2
    have x2 := x1.call hb2
    have z2 := z1.call hb2
    clear c0 c1
    obtain ⟨w3, hmk, hob, hg3⟩ := made_links l.length (by omega) w2
    have hb3 : Below w2.heap.size w2 w3 := (Below.refl _ _).grown hg3 (Nat.le_refl _) (fun k hk => by cases hk)
    have x3 := x2.call hb3
    have z3 := z2.call hb3
    obtain ⟨c0, c1, _⟩ := x2.two
    obtain ⟨e0, e1, _⟩ := x3.two
    have hzl := z2.lt
    go_wp2_with (fail)
    clear c0 c1 e0 e1 hmk hg3
    go_loopg [31] l.length (fun gk iv wr => ∃ k : Nat, Hid (k + gk = l.length) ∧ iv = .int .i64 (k : Int) ∧ Bx wr w.heap.size 24 #[.int .i64 n, .slice A l.length c] ∧ Bx wr (w.heap.size + 1) 24 #[.int .i64 0, .slice none 0 0] ∧ wr.ownsRow w2.heap.size 69 2 (.slice (some ⟨w2.heap.size, 0, none⟩) l.length l.length) l.length (cellsP (R.take k ++ List.replicate gk (0, 0))) ∧ w2.heap.size < wr.heap.size ∧ Below w.heap.size w wr)
    case atStart =>
      have hsz : w2.heap.size < w3.heap.size := (hob.lt _ rfl).2
      exact ⟨0, by simp [Hid], rfl, x3, z3, by simpa using hob, hsz, bl_call hb02 hb3⟩
    case round =>
      obtain ⟨k, HK, rfl, xr, zr, ho, hsz, hb⟩ := hrel
      clear x3 z3 hob
      rcases gk with _ | gi
      · obtain rfl : k = l.length := HK.out
        rw [List.replicate_zero, List.append_nil, ← hRL, List.take_length, hRL] at ho
        have HSC := HSo _ _ _ _ ho
        have hsp : (sortP R).length = l.length := hSL
        clear HSt HSo hSL
        generalize sortP R = M at *
        go_wp2_with (fail)
        refine HSC.out.mono ?_
        rintro e w5 ⟨rfl, ho5, hg5⟩
        have hs5 := hg5.size
        have hb5 : Below w.heap.size w w5 := hb.grown hg5 hb.size (fun j hj => by have := (ho.lt j hj).1; have := hb02.size; omega)
        have hblk : ∀ g T cs, g < w2.heap.size → Bx wr g T cs → Bx w5 g T cs := fun g T cs hg hx => (hg5.block g hx.lt (fun e => by have := (ho.lt g e.symm).1; omega)).trans hx
        have x5 := hblk _ _ _ (by have := x2.lt; exact this) xr
        have z5 := hblk _ _ _ hzl zr
        obtain ⟨c0, c1, _⟩ := x5.two
        obtain ⟨f0, f1, f2, f3⟩ := z5.two
        have zF := z5.set2 (.int .i64 n) (.slice (some ⟨w2.heap.size, 0, none⟩) l.length l.length)
        have hbF := bl_set (bl_set hb5 (g := w.heap.size + 1) (i := 0) (by omega) (.int .i64 n)) (g := w.heap.size + 1) (i := 1) (by omega) (.slice (some ⟨w2.heap.size, 0, none⟩) l.length l.length)
        have hoF := own_base (ownsRow_setCell_below (ownsRow_setCell_below ho5 (a := ⟨w.heap.size + 1, 0, none⟩) hzl (.int .i64 n)) (a := ⟨w.heap.size + 1, 1, none⟩) hzl (.slice (some ⟨w2.heap.size, 0, none⟩) l.length l.length)) hb02.size
        have HSP := Lib.hid hsp
        clear hsp HSC ho5 hg5 hblk
        go_wp2_with (fail)
        refine bodyPost_ret (results_cell_tmp rfl _ _ (w.heap.size + 1) 24 _ (0, 0) _ _ rfl rfl zF Try.underlying24 rfl (by kernel_rfl)) rfl ?_
        refine ⟨some ⟨w2.heap.size, 0, none⟩, l.length, ?_, ?_, hbF⟩
        · rw [HSP.out]; rfl
        · rw [HSP.out]; exact hoF
      · have hkl : k < l.length := by have h := HK.out; omega
        have hkl' : (k : Int) < (l.length : Int) := by omega
        have hx := hl (l.getD k (0, 0)) (by simp [hkl])
        obtain ⟨b, o, rfl, hbl, d0, d1⟩ := (hr.later hb).pair hkl
        have HS := HSt k hkl
        generalize l.getD k (0, 0) = x at *
        obtain ⟨u, v⟩ := x
        simp only [] at d0 d1 hx
        obtain ⟨u, rfl⟩ := Int.eq_ofNat_of_zero_le hx.1
        obtain ⟨v, rfl⟩ := Int.eq_ofNat_of_zero_le (show (0 : Int) ≤ v by omega)
        have hbA := bl_alloc (Below.refl wr.heap.size wr) (.cells #[.int .i64 u, .int .i64 v] 69)
        have hu : u < q.length := by omega
        have hv : v < q.length := by omega
        have hu' : (u : Int) < (q.length : Int) := by omega
        have hv' : (v : Int) < (q.length : Int) := by omega
        obtain ⟨bq, oq, rfl, hbq, hc⟩ := (hs.later (bl_call hb hbA)).at_ (k := u) (by simpa using hu)
        have p0 := hc u _ (ints_get hu)
        have p1 := hc v _ (ints_get hv)
        have HRX : Hid (renX q ((u : Int), (v : Int)) = (min (q.getD u 0) (q.getD v 0), max (q.getD u 0) (q.getD v 0))) := by show _ = _; rw [renX, nuO, nuO]; simp
        generalize q.getD u 0 = qu at *
        generalize q.getD v 0 = qv at *
        have HS2 : Hid ((R.take k ++ List.replicate (gi + 1) ((0 : Int), (0 : Int))).set k (min qu qv, max qu qv) = R.take (k + 1) ++ List.replicate gi (0, 0)) := by
          show _ = _
          rw [set_fill _ (by rw [List.length_take]; omega), ← HRX.out, HS.out]
        have hMl : (R.take k ++ List.replicate (gi + 1) ((0 : Int), (0 : Int))).length = l.length := by
          have h := HK.out
          rw [List.length_append, List.length_take, List.length_replicate]; omega
        generalize R.take k ++ List.replicate (gi + 1) ((0 : Int), (0 : Int)) = M at *
        clear hc hx HRX HS
        obtain ⟨c0, c1, _⟩ := xr.two
        go_wp2_with (fail)
        go_quiet (fail)
        generalize hwd : (wr.alloc (.cells #[.int .i64 u, .int .i64 v] 69)).drewN _ = wd
        have hbD : Below wr.heap.size wr wd := by rw [← hwd]; exact below_drewN hbA _
        have hbw := bl_call hb hbD
        have xd := xr.call hbD
        have zd := zr.call hbD
        clear hwd d0 d1 p0 p1 c0 c1
        obtain ⟨g, he, hgb, hgl, ⟨n0, n1⟩, ⟨f0, f1⟩, ho'⟩ := own_putP (own_call ho hbD) hMl hkl (min qu qv) (max qu qv)
        cases he
        rw [HS2.out] at ho'
        have hg2 : w.heap.size + 1 < w2.heap.size := hzl
        have hx2 := x2.lt
        have HREL := Lib.hid (And.intro ((xd.far (g' := w2.heap.size) (i := k * 2) (by omega) (.int .i64 (min qu qv))).far (g' := w2.heap.size) (i := k * 2 + 1) (by omega) (.int .i64 (max qu qv))) (And.intro ((zd.far (g' := w2.heap.size) (i := k * 2) (by omega) (.int .i64 (min qu qv))).far (g' := w2.heap.size) (i := k * 2 + 1) (by omega) (.int .i64 (max qu qv))) (And.intro ho' (And.intro (show w2.heap.size < ((wd.setCell ⟨w2.heap.size, k * 2, none⟩ (.int .i64 (min qu qv))).setCell ⟨w2.heap.size, k * 2 + 1, none⟩ (.int .i64 (max qu qv))).heap.size by have := hbD.size; simp; omega) (bl_set (bl_set hbw (g := w2.heap.size) (i := k * 2) (by omega) (.int .i64 (min qu qv))) (g := w2.heap.size) (i := k * 2 + 1) (by omega) (.int .i64 (max qu qv)))))))
        clear ho' ho xd zd xr zr HS2
        go_wp2_with (fail)
        go_roundg gi
        case rel => exact ⟨k + 1, by have h := HK.out; show _ = _; omega, by go_num, HREL.out⟩
        case measure => omega
end Go.Proofs.Ytjgpfnnokdcgoaa

/- Renamed places are as far from each other. -/
namespace Go.Proofs.Ytjgpfnnokdcgoaa
open Go.RowKit Go.Maps

theorem nuO_mem {n : Nat} {q : List Int} (ho : orderB n q = true) {u : Int} (h0 : 0 ≤ u) (h1 : u < (n : Int)) : nuO q u ∈ q := by
  have hl := (orderB_iff.1 ho).1
  rw [nuO, List.getD_eq_getElem?_getD, List.getElem?_eq_getElem (show u.toNat < q.length by omega), Option.getD_some]
  exact List.getElem_mem _
theorem nuO_in {n : Nat} {q : List Int} (ho : orderB n q = true) {u : Int} (h0 : 0 ≤ u) (h1 : u < (n : Int)) : 0 ≤ nuO q u ∧ nuO q u < (n : Int) :=
  (orderB_iff.1 ho).2.1 _ (nuO_mem ho h0 h1)
theorem nuO_inj {n : Nat} {q : List Int} (ho : orderB n q = true) {u v : Int} (h0 : 0 ≤ u) (h1 : u < (n : Int)) (k0 : 0 ≤ v) (k1 : v < (n : Int)) (h : nuO q u = nuO q v) : u = v := by
  obtain ⟨hl, _, hn⟩ := orderB_iff.1 ho
  have e1 : u.toNat < q.length := by omega
  have e2 : v.toNat < q.length := by omega
  rw [nuO, nuO, List.getD_eq_getElem?_getD, List.getD_eq_getElem?_getD, List.getElem?_eq_getElem e1, List.getElem?_eq_getElem e2, Option.getD_some, Option.getD_some] at h
  rw [List.nodup_iff_pairwise_ne, List.pairwise_iff_getElem] at hn
  rcases Nat.lt_trichotomy u.toNat v.toNat with hlt | heq | hlt
  · exact absurd h (hn _ _ e1 e2 hlt)
  · omega
  · exact absurd h.symm (hn _ _ e2 e1 hlt)
theorem nuO_sur {n : Nat} {q : List Int} (ho : orderB n q = true) {z : Int} (h0 : 0 ≤ z) (h1 : z < (n : Int)) : ∃ u : Int, 0 ≤ u ∧ u < (n : Int) ∧ nuO q u = z := by
  obtain ⟨hl, _, _⟩ := orderB_iff.1 ho
  have hm := (orderB_all (n := n) (q := q) (by omega)).1 ho z h0 h1
  obtain ⟨i, hi, rfl⟩ := List.mem_iff_getElem.1 hm
  exact ⟨i, by omega, by omega, by rw [nuO]; simp [hi]⟩
theorem keyL_lt {u v : Int} (h : u < v) : keyL u v = (u, v) := by
  rw [keyL, Int.min_eq_left (by omega), Int.max_eq_right (by omega)]
theorem keyL_ge {u v : Int} (h : v ≤ u) : keyL u v = (v, u) := by
  rw [keyL, Int.min_eq_right (by omega), Int.max_eq_left (by omega)]
theorem renX_key (q : List Int) (u v : Int) : renX q (u, v) = keyL (nuO q u) (nuO q v) := rfl
theorem keyL_comm (u v : Int) : keyL u v = keyL v u := by rw [keyL, keyL, Int.min_comm, Int.max_comm]
theorem keyL_eq {a b c d : Int} (h : keyL a b = keyL c d) : (a = c ∧ b = d) ∨ (a = d ∧ b = c) := by
  rw [keyL, keyL] at h
  injection h with h1 h2
  omega
/-- Two zones have a link exactly if the renamed ones have. -/
theorem ren_link {n : Nat} {l l' : List (Int × Int)} {q : List Int} (ht : trapE n l = 0) (ho : orderB n q = true) (hm : ∀ x, x ∈ l' ↔ x ∈ renL q l) {u v : Int} (h0 : 0 ≤ u) (h1 : u < (n : Int)) (k0 : 0 ≤ v) (k1 : v < (n : Int)) : linkB l' (nuO q u) (nuO q v) = linkB l u v := by
  obtain ⟨_, hl, _⟩ := trapE_zero ht
  rw [linkB, linkB, Bool.eq_iff_iff, decide_eq_true_eq, decide_eq_true_eq, hm, renL, List.mem_map]
  constructor
  · rintro ⟨⟨a, b⟩, hx, he⟩
    have hb := hl _ hx
    simp only [] at hb
    rw [renX_key] at he
    have key : keyL u v = (a, b) := by
      rcases keyL_eq he with ⟨e1, e2⟩ | ⟨e1, e2⟩
      · rw [← nuO_inj ho (by omega) (by omega) h0 h1 e1, ← nuO_inj ho (by omega) (by omega) k0 k1 e2]
        exact keyL_lt hb.2.1
      · rw [← nuO_inj ho (by omega) (by omega) k0 k1 e1, ← nuO_inj ho (by omega) (by omega) h0 h1 e2]
        exact keyL_ge (by omega)
    rw [key]; exact hx
  · intro hx
    refine ⟨_, hx, ?_⟩
    rcases Int.lt_or_le u v with h | h
    · rw [keyL_lt h, renX_key]
    · rw [keyL_ge h, renX_key, keyL_comm]
/-- A place renamed. -/
abbrev nuP (q p : List Int) : List Int := p.map (nuO q)
theorem nuP_valid {n : Nat} {q p : List Int} (ho : orderB n q = true) (hv : PlV n p) : PlV n (nuP q p) := by
  refine ⟨fun x hx => ?_, ?_⟩
  · obtain ⟨u, hu, rfl⟩ := List.mem_map.1 hx
    have := hv.inn u hu
    exact nuO_in ho this.1 this.2
  · rw [List.nodup_iff_pairwise_ne, List.pairwise_map]
    refine (List.Pairwise.and_mem.1 hv.nod).imp fun {a b} h e => ?_
    obtain ⟨ha, hb, hne⟩ := h
    have := hv.inn a ha
    have h2 := hv.inn b hb
    exact hne (nuO_inj ho this.1 this.2 h2.1 h2.2 e)
theorem nuP_inj {n : Nat} {q : List Int} (ho : orderB n q = true) : ∀ {a b : List Int}, (∀ x ∈ a, 0 ≤ x ∧ x < (n : Int)) → (∀ x ∈ b, 0 ≤ x ∧ x < (n : Int)) → nuP q a = nuP q b → a = b
  | [], [], _, _, _ => rfl
  | [], _ :: _, _, _, h => by simp at h
  | _ :: _, [], _, _, h => by simp at h
  | x :: a, y :: b, ha, hb, h => by
    rw [nuP, nuP, List.map_cons, List.map_cons] at h
    injection h with h1 h2
    have hx := ha x (by simp)
    have hy := hb y (by simp)
    rw [nuO_inj ho hx.1 hx.2 hy.1 hy.2 h1, nuP_inj ho (fun z hz => ha z (List.mem_cons_of_mem _ hz)) (fun z hz => hb z (List.mem_cons_of_mem _ hz)) h2]
theorem nuP_nx {q p : List Int} {i : Nat} {z : Int} : nx (nuP q p) ((i : Int), nuO q z) = nuP q (nx p ((i : Int), z)) := by
  rw [nx, nx, nuP, nuP, List.map_set]
/-- A move of a place is one of the renamed place. -/
theorem ren_move {n : Nat} {l l' : List (Int × Int)} {q p : List Int} (ht : trapE n l = 0) (ho : orderB n q = true) (hm : ∀ x, x ∈ l' ↔ x ∈ renL q l) (hv : PlV n p) {i : Nat} {z : Int} (hz0 : 0 ≤ z) (hz1 : z < (n : Int)) :
    moveE l' n (nuP q p) ((i : Int), nuO q z) = 0 ↔ moveE l n p ((i : Int), z) = 0 := by
  have hi : zoneOk (nuP q p).length (i : Int) = zoneOk p.length (i : Int) := by rw [nuP, List.length_map]
  have hzo : zoneOk (n : Int) (nuO q z) = true := by have := nuO_in ho hz0 hz1; exact zoneOk_iff.2 this
  have hzz : zoneOk (n : Int) z = true := zoneOk_iff.2 ⟨hz0, hz1⟩
  have hc : (nuP q p).contains (nuO q z) = p.contains z := by
    rw [Bool.eq_iff_iff, List.contains_iff_mem, List.contains_iff_mem, List.mem_map]
    constructor
    · rintro ⟨y, hy, he⟩
      have := hv.inn y hy
      rw [← nuO_inj ho this.1 this.2 hz0 hz1 he]; exact hy
    · intro h; exact ⟨z, h, rfl⟩
  have hlk : i < p.length → linkB l' ((nuP q p).getD i 0) (nuO q z) = linkB l (p.getD i 0) z := fun h => by
    have e1 : (nuP q p).getD i 0 = nuO q (p.getD i 0) := by simp [h]
    have hin := hv.inn (p.getD i 0) (by simp [h])
    rw [e1]
    exact ren_link ht ho hm hin.1 hin.2 hz0 hz1
  constructor
  · intro h
    obtain ⟨h1, h2, h3, h4⟩ := moveE_zero h
    rw [hi] at h1
    have hil : i < p.length := by have := zoneOk_iff.1 h1; omega
    exact moveE_of h1 hzz (by show linkB l (p.getD ((i : Int)).toNat 0) z = true; rw [Int.toNat_natCast, ← hlk hil]; simpa using h3) (by show p.contains z = false; rw [← hc]; exact h4)
  · intro h
    obtain ⟨h1, h2, h3, h4⟩ := moveE_zero h
    have hil : i < p.length := by have := zoneOk_iff.1 h1; simp only [] at this; omega
    exact moveE_of (by rw [hi]; exact h1) hzo (by show linkB l' ((nuP q p).getD ((i : Int)).toNat 0) _ = true; rw [Int.toNat_natCast, hlk hil]; simpa using h3) (by rw [hc]; exact h4)
theorem ren_path {n : Nat} {l l' : List (Int × Int)} {q p x : List Int} {r : List (Int × Int)} (ht : trapE n l = 0) (ho : orderB n q = true) (hm : ∀ x, x ∈ l' ↔ x ∈ renL q l) (hv : PlV n p) (h : PathZ l n p r x) : ∃ s, PathZ l' n (nuP q p) s (nuP q x) ∧ s.length = r.length := by
  induction h with
  | nil => exact ⟨[], .nil, rfl⟩
  | @cons r x m hp hmv ih =>
    obtain ⟨s, h1, h2⟩ := ih
    have hmo := mem_mvZ.1 hmv
    obtain ⟨z1, z2, _, _⟩ := moveE_zero hmo
    obtain ⟨i, z⟩ := m
    have hi := zoneOk_iff.1 z1
    simp only [] at hi
    obtain ⟨i, rfl⟩ := Int.eq_ofNat_of_zero_le hi.1
    obtain ⟨k0, k1⟩ := zoneOk_iff.1 z2
    have hv2 := path_valid hv hp
    have h3 := Path.cons h1 (mem_mvZ.2 ((ren_move ht ho hm hv2 k0 k1).2 hmo))
    rw [nuP_nx] at h3
    exact ⟨_, h3, by simp [h2]⟩
theorem ren_back {n : Nat} {l l' : List (Int × Int)} {q p y : List Int} {r : List (Int × Int)} (ht : trapE n l = 0) (ho : orderB n q = true) (hm : ∀ x, x ∈ l' ↔ x ∈ renL q l) (hv : PlV n p) (h : PathZ l' n (nuP q p) r y) : ∃ s x, PathZ l n p s x ∧ y = nuP q x ∧ s.length = r.length := by
  induction h with
  | nil => exact ⟨[], p, .nil, rfl, rfl⟩
  | @cons r y m hp hmv ih =>
    obtain ⟨s, x, h1, rfl, h2⟩ := ih
    have hmo := mem_mvZ.1 hmv
    obtain ⟨z1, z2, _, _⟩ := moveE_zero hmo
    obtain ⟨i, z⟩ := m
    have hi := zoneOk_iff.1 z1
    simp only [] at hi
    obtain ⟨i, rfl⟩ := Int.eq_ofNat_of_zero_le hi.1
    obtain ⟨k0, k1⟩ := zoneOk_iff.1 z2
    obtain ⟨u, u0, u1, rfl⟩ := nuO_sur ho k0 k1
    have hv2 := path_valid hv h1
    exact ⟨_, _, Path.cons h1 (mem_mvZ.2 ((ren_move ht ho hm hv2 u0 u1).1 hmo)), nuP_nx, by simp [h2]⟩
theorem reach_map_le {n : Nat} {l l' : List (Int × Int)} {p p' : List Int} (f : List Int → List Int) (hvp : PlV n p) (hvp' : PlV n p') (h6 : n ≤ 6) (h4 : p.length ≤ 4) (h4' : p'.length ≤ 4)
    (hinj : ∀ a b, PlV n a → PlV n b → f a = f b → a = b) (H : ∀ s x, PathZ l n p s x → ∃ s', PathZ l' n p' s' (f x) ∧ s'.length = s.length) (HB : ∀ s' x, PlV n x → PathZ l' n p' s' (f x) → ∃ s, PathZ l n p s x ∧ s.length = s'.length) :
    (reachL l n p).length ≤ (reachL l' n p').length ∧ lastFar (reachL l n p) ≤ lastFar (reachL l' n p') := by
  obtain ⟨a1, a2, a3, _, _, _⟩ := reachL_facts (l := l) hvp rfl h6 h4
  obtain ⟨b1, b2, b3, _, _, b6⟩ := reachL_facts (l := l') hvp' rfl h6 h4'
  have hva : ∀ x ∈ reachL l n p, PlV n x.1 := fun x hx => path_valid hvp (a2 x hx)
  constructor
  · have hn : ((reachL l n p).map fun x => f x.1).Nodup := by
      rw [List.nodup_iff_pairwise_ne, List.pairwise_map]
      rw [List.nodup_iff_pairwise_ne, List.pairwise_map] at a1
      refine (List.Pairwise.and_mem.1 a1).imp fun {a b} h e => ?_
      exact h.2.2 (hinj _ _ (hva a h.1) (hva b h.2.1) e)
    have := nodup_sub hn (m := (reachL l' n p').map Prod.fst) fun x hx => by
      obtain ⟨y, hy, rfl⟩ := List.mem_map.1 hx
      obtain ⟨s', hs', _⟩ := H _ _ (a2 y hy)
      obtain ⟨z, hz, he, _⟩ := b3 _ _ hs'
      exact List.mem_map.2 ⟨z, hz, he⟩
    simpa using this
  · obtain ⟨y0, hy0, _⟩ := a3 [] p .nil
    have hne : reachL l n p ≠ [] := List.ne_nil_of_mem hy0
    have hlast := List.getLast_mem hne
    have e1 : lastFar (reachL l n p) = ((reachL l n p).getLast hne).2.length := by rw [lastFar, List.getLast?_eq_some_getLast hne]; rfl
    rw [e1]
    generalize (reachL l n p).getLast hne = a at *
    obtain ⟨s', hs', _⟩ := H _ _ (a2 a hlast)
    obtain ⟨z, hz, he, _⟩ := b3 _ _ hs'
    have hpz := b2 z hz
    rw [he] at hpz
    obtain ⟨s, hs, hsl⟩ := HB _ _ (hva a hlast) hpz
    obtain ⟨a', ha', hae, hal⟩ := a3 _ _ hs
    rw [fst_unique a1 ha' hlast hae] at hal
    have hne' : reachL l' n p' ≠ [] := List.ne_nil_of_mem hz
    have e2 : lastFar (reachL l' n p') = ((reachL l' n p').getLast hne').2.length := by rw [lastFar, List.getLast?_eq_some_getLast hne']; rfl
    rw [e2]
    have hzl : z.2.length ≤ ((reachL l' n p').getLast hne').2.length := by
      have hsplit := (List.dropLast_concat_getLast hne').symm
      rw [hsplit] at hz b6
      rcases List.mem_append.1 hz with h | h
      · exact (List.pairwise_append.1 b6).2.2 z h _ (by simp)
      · rw [List.mem_singleton.1 h]; exact Nat.le_refl _
    omega
/-- A trap with other numbers reaches as many places, and as far. -/
theorem renames_facts {Z : Int} {l l' : List (Int × Int)} {q p : List Int} (hp : placeE Z l p = 0) (ho : orderB Z q = true) (hm : ∀ x, x ∈ l' ↔ x ∈ renL q l) (ht' : trapE Z l' = 0) :
    placeE Z l' (nuP q p) = 0 ∧ reachG Z l' (nuP q p) = reachG Z l p ∧ farG Z l' (nuP q p) = farG Z l p := by
  obtain ⟨ht, hp4, _, _⟩ := placeE_zero hp
  obtain ⟨n, rfl, _, h6⟩ := trap_nat ht
  have hv := placeE_v hp
  have hv' := nuP_valid ho hv
  have hl' : (nuP q p).length ≤ 4 := by rw [nuP, List.length_map]; exact hp4
  have hE : placeE n l' (nuP q p) = 0 := placeE_of ht' hl' hv'
  have e1 : reachG n l p = ((reachL l n p).length : Int) := by rw [reachG, if_pos hp]; simp
  have e2 : reachG n l' (nuP q p) = ((reachL l' n (nuP q p)).length : Int) := by rw [reachG, if_pos hE]; simp
  have e3 : farG n l p = (lastFar (reachL l n p) : Int) := by rw [farG, if_pos hp]; simp
  have e4 : farG n l' (nuP q p) = (lastFar (reachL l' n (nuP q p)) : Int) := by rw [farG, if_pos hE]; simp
  have hpl : ∀ {s : List (Int × Int)} {x : List Int}, PathZ l n p s x → PlV n x := fun h => path_valid hv h
  have hback : ∀ s' x, PlV n x → PathZ l' n (nuP q p) s' (nuP q x) → ∃ s, PathZ l n p s x ∧ s.length = s'.length := fun s' x hx h => by
    obtain ⟨s, y, h1, h2, h3⟩ := ren_back ht ho hm hv h
    rw [nuP_inj ho hx.inn (hpl h1).inn h2]
    exact ⟨s, h1, h3⟩
  obtain ⟨A1, A2⟩ := reach_map_le (nuP q) hv hv' h6 hp4 hl' (fun a b ha hb h => nuP_inj ho ha.inn hb.inn h) (fun s x h => ren_path ht ho hm hv h) hback
  have hex : ∀ y, PlV n y → ∃ x, PlV n x ∧ nuP q x = y := fun y hy => by
    have : ∀ y : List Int, (∀ z ∈ y, 0 ≤ z ∧ z < (n : Int)) → ∃ x : List Int, (∀ z ∈ x, 0 ≤ z ∧ z < (n : Int)) ∧ nuP q x = y := fun y => by
      induction y with
      | nil => exact fun _ => ⟨[], by simp, rfl⟩
      | cons a y ih =>
        intro h
        obtain ⟨x, h1, h2⟩ := ih fun z hz => h z (List.mem_cons_of_mem _ hz)
        have ha := h a (by simp)
        obtain ⟨u, u0, u1, hu⟩ := nuO_sur ho ha.1 ha.2
        refine ⟨u :: x, fun z hz => ?_, by rw [nuP, List.map_cons, hu]; rw [nuP] at h2; rw [h2]⟩
        rcases List.mem_cons.1 hz with rfl | hz
        · exact ⟨u0, u1⟩
        · exact h1 z hz
    obtain ⟨x, h1, h2⟩ := this y hy.inn
    refine ⟨x, ⟨h1, ?_⟩, h2⟩
    have hn := hy.nod
    rw [← h2, nuP, List.nodup_iff_pairwise_ne, List.pairwise_map] at hn
    exact hn.imp fun h e => h (by rw [e])
  obtain ⟨g, hgd⟩ : ∃ g : List Int → List Int, ∀ y, PlV n y → PlV n (g y) ∧ nuP q (g y) = y := ⟨fun y => Classical.epsilon fun x => PlV n x ∧ nuP q x = y, fun y hy => Classical.epsilon_spec (hex y hy)⟩
  obtain ⟨B1, B2⟩ := reach_map_le g hv' hv h6 hl' hp4 (fun a b ha hb h => by rw [← (hgd a ha).2, h, (hgd b hb).2]) (fun s y h => by
    obtain ⟨r, x, h1, rfl, h3⟩ := ren_back ht ho hm hv h
    have hx := hpl h1
    have e : g (nuP q x) = x := nuP_inj ho (hgd _ (nuP_valid ho hx)).1.inn hx.inn (hgd _ (nuP_valid ho hx)).2
    exact ⟨r, by rw [e]; exact h1, h3⟩) (fun s' y hy h => by
    obtain ⟨r, h1, h2⟩ := ren_path ht ho hm hv h
    rw [(hgd y hy).2] at h1
    exact ⟨r, h1, h2⟩)
  refine ⟨hE, by rw [e1, e2]; omega, by rw [e3, e4]; omega⟩
end Go.Proofs.Ytjgpfnnokdcgoaa

/- A trap with other numbers of the zones, in the specification. -/
namespace Go.Proofs.Ytjgpfnnokdcgoaa
open Go.RowKit Go.Maps

/-- append, whose run is known, as a step. -/
theorem wpList_append_eqR {P : Program} {w : World} {ops : Array Oper} {rest : List Oper} {o : Oper} {a : Act} {Q : Exit → Act → World → Prop} (hgd : o.guard = none) (s x : Operand) (t : TypeId)
    (ho : o.op = .call { callee := .builtin .append, args := #[s, x], argTypes := #[t, t] }) (v1 v2 v' : Value) (W2 : World) (hs : a.eval s = v1) (hx : a.eval x = v2)
    (hrun : ∀ ty, (Builtin.append_ #[t, t] ty #[v1, v2]).run P w = .ok v' W2) (h : wpList P ops Q rest (a.put o.dst v') W2) : wpList P ops Q (o :: rest) a w := by
  refine wpList_plain hgd fun K hK => ?_
  unfold Oper.wp execOp
  simp only [ho, resolve, invoke, builtin, Sem.run_bind, Sem.run_pure, Result.andThen_ok, List.map_toArray, List.map_cons, List.map_nil, hs, hx, hrun]
  exact hK _ _ h

/-- The links of the number a with the numbers between a and b. -/
def rowTo (f : Nat → Nat → Bool) (a b : Nat) : List (Int × Int) := ((List.range b).filter fun j => decide (a < j) && f a j).map fun j : Nat => ((a : Int), (j : Int))
def pairsTo (f : Nat → Nat → Bool) (n a : Nat) : List (Int × Int) := (List.range a).flatMap fun i => rowTo f i n
theorem rowTo_zero (f : Nat → Nat → Bool) (a : Nat) : rowTo f a (a + 1) = [] := by
  rw [rowTo, List.filter_eq_nil_iff.2 (fun j hj => by rw [List.mem_range] at hj; simp; omega)]; rfl
theorem rowTo_succ (f : Nat → Nat → Bool) {a b : Nat} (h : a < b) : rowTo f a (b + 1) = if f a b then rowTo f a b ++ [((a : Int), (b : Int))] else rowTo f a b := by
  rw [rowTo, List.range_succ, List.filter_append, List.map_append]
  cases hf : f a b
  · simp [rowTo, h, hf]
  · simp [rowTo, h, hf]
theorem pairsTo_succ (f : Nat → Nat → Bool) (n a : Nat) : pairsTo f n (a + 1) = pairsTo f n a ++ rowTo f a n := by
  rw [pairsTo, List.range_succ, List.flatMap_append]; simp [pairsTo]
theorem rowTo_len (f : Nat → Nat → Bool) (a b : Nat) : (rowTo f a b).length ≤ b := by
  rw [rowTo, List.length_map]
  exact Nat.le_trans (List.length_filter_le _ _) (by simp)
theorem pairsTo_len (f : Nat → Nat → Bool) (n : Nat) : ∀ a, (pairsTo f n a).length ≤ a * n
  | 0 => by simp [pairsTo]
  | a + 1 => by
    rw [pairsTo_succ, List.length_append, Nat.add_mul, Nat.one_mul]
    have := pairsTo_len f n a
    have := rowTo_len f a n
    omega
theorem rowTo_mem {f : Nat → Nat → Bool} {a b : Nat} {x : Int × Int} : x ∈ rowTo f a b ↔ ∃ j, a < j ∧ j < b ∧ f a j = true ∧ x = ((a : Int), (j : Int)) := by
  rw [rowTo, List.mem_map]
  constructor
  · rintro ⟨j, hj, rfl⟩
    rw [List.mem_filter, List.mem_range] at hj
    simp at hj
    exact ⟨j, hj.2.1, hj.1, hj.2.2, rfl⟩
  · rintro ⟨j, h1, h2, h3, rfl⟩
    exact ⟨j, by rw [List.mem_filter, List.mem_range]; simp [h1, h2, h3], rfl⟩
theorem pairsTo_mem {f : Nat → Nat → Bool} {n a : Nat} {x : Int × Int} : x ∈ pairsTo f n a ↔ ∃ i j, i < a ∧ i < j ∧ j < n ∧ f i j = true ∧ x = ((i : Int), (j : Int)) := by
  rw [pairsTo, List.mem_flatMap]
  constructor
  · rintro ⟨i, hi, hx⟩
    rw [List.mem_range] at hi
    obtain ⟨j, h1, h2, h3, h4⟩ := rowTo_mem.1 hx
    exact ⟨i, j, hi, h1, h2, h3, h4⟩
  · rintro ⟨i, j, h0, h1, h2, h3, h4⟩
    exact ⟨i, List.mem_range.2 h0, rowTo_mem.2 ⟨j, h1, h2, h3, h4⟩⟩
theorem pairsTo_sorted (f : Nat → Nat → Bool) (n : Nat) : ∀ a, (pairsTo f n a).Pairwise fun x y => ltP x y = true
  | 0 => by simp [pairsTo]
  | a + 1 => by
    rw [pairsTo_succ, List.pairwise_append]
    refine ⟨pairsTo_sorted f n a, ?_, fun x hx y hy => ?_⟩
    · rw [rowTo, List.pairwise_map]
      refine ((List.pairwise_lt_range (n := n)).filter _).imp fun h => ?_
      rw [ltP_iff]; right; exact ⟨rfl, by simp only []; omega⟩
    · obtain ⟨i, j, h1, _, _, _, rfl⟩ := pairsTo_mem.1 hx
      obtain ⟨j', _, _, _, rfl⟩ := rowTo_mem.1 hy
      rw [ltP_iff]; left; simp only []; omega
/-- What the list of the old numbers is to hold. -/
def OldOk (q O : List Int) (n k : Nat) : Prop := O.length = n ∧ ∀ j, j < k → O.getD (q.getD j 0).toNat 0 = (j : Int)
theorem OldOk.step {q O : List Int} {n k : Nat} (h : OldOk q O n k) (ho : orderB n q = true) (hk : k < n) : OldOk q (O.set (q.getD k 0).toNat (k : Int)) n (k + 1) := by
  obtain ⟨hl, hin, hn⟩ := orderB_iff.1 ho
  refine ⟨by rw [List.length_set]; exact h.1, fun j hj => ?_⟩
  have hqk := nuO_in ho (u := (k : Int)) (by omega) (by omega)
  rw [nuO, Int.toNat_natCast] at hqk
  by_cases e : j = k
  · subst e
    have hlt : (q.getD j 0).toNat < O.length := by rw [h.1]; omega
    rw [List.getD_eq_getElem?_getD, List.getElem?_set_self hlt]; rfl
  · have hqj := nuO_in ho (u := (j : Int)) (by omega) (by omega)
    rw [nuO, Int.toNat_natCast] at hqj
    have hne : (q.getD k 0).toNat ≠ (q.getD j 0).toNat := by
      intro he
      have := nuO_inj ho (u := (j : Int)) (v := (k : Int)) (by omega) (by omega) (by omega) (by omega) (by rw [nuO, nuO, Int.toNat_natCast, Int.toNat_natCast]; omega)
      omega
    rw [← h.2 j (by omega), List.getD_eq_getElem?_getD, List.getElem?_set_ne hne, ← List.getD_eq_getElem?_getD]
def oldF (l : List (Int × Int)) (O : List Int) (a b : Nat) : Bool := linkB l (O.getD a 0) (O.getD b 0)
theorem OldOk.at {q O : List Int} {n : Nat} (h : OldOk q O n n) {u : Int} (h0 : 0 ≤ u) (h1 : u < (n : Int)) : O.getD (nuO q u).toNat 0 = u := by
  have := h.2 u.toNat (by omega)
  rw [nuO, this]; omega
theorem OldOk.in {q O : List Int} {n : Nat} (h : OldOk q O n n) (ho : orderB n q = true) {a : Nat} (ha : a < n) : 0 ≤ O.getD a 0 ∧ O.getD a 0 < (n : Int) ∧ nuO q (O.getD a 0) = (a : Int) := by
  obtain ⟨u, u0, u1, hu⟩ := nuO_sur ho (z := (a : Int)) (by omega) (by omega)
  have h2 := h.at u0 u1
  rw [hu, Int.toNat_natCast] at h2
  rw [h2]; exact ⟨u0, u1, hu⟩
/-- The renamed links, sorted, are those pairs whose old ones have a link. -/
theorem ren_pairs {n : Nat} {l : List (Int × Int)} {q O : List Int} (ht : trapE n l = 0) (ho : orderB n q = true) (hO : OldOk q O n n) : sortP (renL q l) = pairsTo (oldF l O) n n := by
  obtain ⟨_, hl, hnd⟩ := trapE_zero ht
  refine sortP_eq ?_ (pairsTo_sorted _ _ _) fun x => ?_
  · rw [renL, List.nodup_iff_pairwise_ne, List.pairwise_map]
    refine (List.Pairwise.and_mem.1 hnd).imp fun {x y} h e => ?_
    obtain ⟨hx, hy, hne⟩ := h
    have h1 := hl x hx
    have h2 := hl y hy
    obtain ⟨x0, x1⟩ := x
    obtain ⟨y0, y1⟩ := y
    simp only [] at h1 h2
    rw [renX_key, renX_key] at e
    rcases keyL_eq e with ⟨e1, e2⟩ | ⟨e1, e2⟩
    · exact hne (by rw [nuO_inj ho (by omega) (by omega) (by omega) (by omega) e1, nuO_inj ho (by omega) (by omega) (by omega) (by omega) e2])
    · have := nuO_inj ho (by omega) (by omega) (by omega) (by omega) e1
      have := nuO_inj ho (by omega) (by omega) (by omega) (by omega) e2
      omega
  · rw [pairsTo_mem, renL, List.mem_map]
    constructor
    · rintro ⟨⟨u, v⟩, hx, rfl⟩
      have hb := hl _ hx
      simp only [] at hb
      have hu := nuO_in ho (u := u) (by omega) (by omega)
      have hv := nuO_in ho (u := v) (by omega) (by omega)
      have hne : nuO q u ≠ nuO q v := fun e => by have := nuO_inj ho (by omega) (by omega) (by omega) (by omega) e; omega
      have hou := hO.at (u := u) (by omega) (by omega)
      have hov := hO.at (u := v) (by omega) (by omega)
      rw [renX_key]
      rcases Int.lt_or_gt_of_ne hne with h | h
      · rw [keyL_lt h]
        refine ⟨(nuO q u).toNat, (nuO q v).toNat, by omega, by omega, by omega, ?_, ?_⟩
        · rw [oldF, hou, hov, linkB, decide_eq_true_eq, keyL_lt hb.2.1]; exact hx
        · rw [Int.toNat_of_nonneg hu.1, Int.toNat_of_nonneg hv.1]
      · rw [keyL_ge (by omega)]
        refine ⟨(nuO q v).toNat, (nuO q u).toNat, by omega, by omega, by omega, ?_, ?_⟩
        · rw [oldF, hou, hov, linkB, decide_eq_true_eq, keyL_ge (by omega)]; exact hx
        · rw [Int.toNat_of_nonneg hu.1, Int.toNat_of_nonneg hv.1]
    · rintro ⟨i, j, h1, h2, h3, h4, rfl⟩
      obtain ⟨i0, i1, hi⟩ := hO.in ho h1
      obtain ⟨j0, j1, hj⟩ := hO.in ho h3
      rw [oldF, linkB, decide_eq_true_eq] at h4
      refine ⟨_, h4, ?_⟩
      have hk : keyL (nuO q (O.getD i 0)) (nuO q (O.getD j 0)) = ((i : Int), (j : Int)) := by rw [hi, hj]; exact keyL_lt (by omega)
      rcases Int.lt_or_le (O.getD i 0) (O.getD j 0) with h | h
      · rw [keyL_lt h, renX_key, hk]
      · rw [keyL_ge h, renX_key, keyL_comm, hk]
theorem ren_trap {n : Nat} {l : List (Int × Int)} {q O : List Int} (ht : trapE n l = 0) (ho : orderB n q = true) (hO : OldOk q O n n) : trapE n (sortP (renL q l)) = 0 := by
  obtain ⟨⟨h1, h2⟩, _, _⟩ := trapE_zero ht
  rw [ren_pairs ht ho hO]
  have hnd : (pairsTo (oldF l O) n n).Nodup := (pairsTo_sorted (oldF l O) n n).imp fun {a b} h e => by
    rw [e, ltP_iff] at h; omega
  rw [trapE, if_pos ⟨h1, h2⟩, if_pos (List.all_eq_true.2 fun x hx => ?_), if_pos (by simpa [onceB] using hnd)]
  obtain ⟨i, j, a1, a2, a3, _, rfl⟩ := pairsTo_mem.1 hx
  exact linkOk_iff.2 ⟨by simp only []; omega, by simp only []; omega, by simp only []; omega⟩

set_option maxRecDepth 100000 in
set_option maxHeartbeats 8000000 in
theorem rRename_c (Z : Int) (A B : Option Addr) (l : List (Int × Int)) (q : List Int) (c d : Nat) (w : World) (hlen : l.length ≤ 1000) (hlen' : q.length ≤ 1000) (hcap : q.length ≤ d) (hr : Rd w A (cellsP l)) (hs : Rd w B (ints q)) :
    Calls Try.prog 58 #[trapV Z A l.length c, .slice B q.length d] w (OutT (renZ Z l q) (renG Z l q) (renE Z l q) w) := by
  obtain ⟨i0, hi, hz0, hz1, hz2⟩ := info_parts link_info
  have x0 : Bx ((w.alloc (.cells #[.int .i64 Z, .slice A l.length c] 24)).alloc (.cells #[.int .i64 0, .slice none 0 0] 24)) w.heap.size 24 #[.int .i64 Z, .slice A l.length c] := (Bx.newAt rfl).alloc _
  have z0 : Bx ((w.alloc (.cells #[.int .i64 Z, .slice A l.length c] 24)).alloc (.cells #[.int .i64 0, .slice none 0 0] 24)) (w.heap.size + 1) 24 #[.int .i64 0, .slice none 0 0] := Bx.newAt (by simp)
  have hb0 := bl_alloc (bl_alloc (Below.refl w.heap.size w) (.cells #[.int .i64 Z, .slice A l.length c] 24)) (.cells #[.int .i64 0, .slice none 0 0] 24)
  generalize hw0 : (w.alloc (.cells #[.int .i64 Z, .slice A l.length c] 24)).alloc (.cells #[.int .i64 0, .slice none 0 0] 24) = w0 at *
  have HV := Lib.hid (rvalidate_c Z A l c w0 hlen (hr.later hb0))
  have HI := fun w1 h => Lib.hid (isOrder_c Z B q d w1 hlen' hcap h)
  obtain ⟨c0, c1, _⟩ := x0.two
  rcases renE_cases Z l q with ⟨h1, hE, hG, hZ⟩ | ⟨h1, h2, hE, hG, hZ⟩ | ⟨h1, h2, hE, hG, hZ⟩
  · rw [hE, hG, hZ]
    clear hE hG hZ HI
    generalize trapE Z l = te at *
    go_enter Try.func58, Try.ntmps58
    go_wp2_with (fail)
    refine HV.out.mono ?_
    rintro e w1 ⟨rfl, hb1⟩
    have z1 := z0.call hb1
    obtain ⟨f0, f1, f2, f3⟩ := z1.two
    have zF := z1.set2 (.int .i64 0) (.slice none 0 0)
    have hbF := bl_set (bl_set (bl_call hb0 hb1) (g := w.heap.size + 1) (i := 0) (by omega) (.int .i64 0)) (g := w.heap.size + 1) (i := 1) (by omega) (.slice none 0 0)
    go_wp2_with (fail)
    refine bodyPost_ret (results_cell_tmp rfl _ _ (w.heap.size + 1) 24 _ (0, 0) _ _ rfl rfl zF Try.underlying24 rfl (by kernel_rfl)) rfl ?_
    exact ⟨none, 0, rfl, World.ownsRow_nil _ _ _ _, hbF⟩
  · rw [hE, hG, hZ]
    rw [h1] at HV
    rw [h2] at HI
    clear hE hG hZ h1 h2
    go_enter Try.func58, Try.ntmps58
    go_wp2_with (fail)
    refine HV.out.mono ?_
    rintro e w1 ⟨rfl, hb1⟩
    have hb01 := bl_call hb0 hb1
    have z1 := z0.call hb1
    clear c0 c1
    obtain ⟨c0, c1, _⟩ := (x0.call hb1).two
    go_wp2_with (fail)
    refine (HI _ (hs.later hb01)).out.mono ?_
    rintro e w2 ⟨rfl, hb2⟩
    have z2 := z1.call hb2
    obtain ⟨f0, f1, f2, f3⟩ := z2.two
    have zF := z2.set2 (.int .i64 0) (.slice none 0 0)
    have hbF := bl_set (bl_set (bl_call hb01 hb2) (g := w.heap.size + 1) (i := 0) (by omega) (.int .i64 0)) (g := w.heap.size + 1) (i := 1) (by omega) (.slice none 0 0)
    go_wp2_with (fail)
    refine bodyPost_ret (results_cell_tmp rfl _ _ (w.heap.size + 1) 24 _ (0, 0) _ _ rfl rfl zF Try.underlying24 rfl (by kernel_rfl)) rfl ?_
    exact ⟨none, 0, rfl, World.ownsRow_nil _ _ _ _, hbF⟩
  · rw [hE, hG, hZ]
    obtain ⟨n, rfl, _, h6⟩ := trap_nat h1
    rw [h1] at HV
    rw [h2] at HI
    have hqn := (orderB_iff.1 h2).1
    have HLK := fun a b w1 h => Lib.hid (rlinked_c n A l c a b w1 hlen h)
    have HPR := fun O h => Lib.hid (@ren_pairs n l q O h1 h2 h)
    have HST := fun O k (h : OldOk q O n k) (hk : k < n) => h.step h2 hk
    have HIN := fun u (hu : u < n) => nuO_in h2 (u := (u : Int)) (by omega) (by omega)
    clear hE hG hZ h1 h2
    go_enter Try.func58, Try.ntmps58
    go_wp2_with (fail)
    refine HV.out.mono ?_
    rintro e w1 ⟨rfl, hb1⟩
    have hb01 := bl_call hb0 hb1
    have x1 := x0.call hb1
    have z1 := z0.call hb1
    clear c0 c1
    obtain ⟨c0, c1, _⟩ := x1.two
    go_wp2_with (fail)
    refine (HI _ (hs.later hb01)).out.mono ?_
    rintro e w2 ⟨rfl, hb2⟩
    have hb02 := bl_call hb01 hb2
    have x2 := x1.call hb2
    have z2 := z1.call hb2
    clear c0 c1
    obtain ⟨w3, hmk, hob, hg3⟩ := made_ints n (by omega) w2
    have hb3 : Below w2.heap.size w2 w3 := (Below.refl _ _).grown hg3 (Nat.le_refl _) (fun k hk => by cases hk)
    have x3 := x2.call hb3
    have z3 := z2.call hb3
    obtain ⟨c0, c1, _⟩ := x2.two
    have hzl := z2.lt
    go_wp2_with (fail)
    clear c0 c1 hmk hg3
    go_loopg [8] n (fun gk iv wr => ∃ (k : Nat) (O : List Int), Hid (k + gk = n) ∧ iv = .int .i64 (k : Int) ∧ Hid (OldOk q O n k) ∧ wr.ownsRow w2.heap.size 3 1 (.slice (some ⟨w2.heap.size, 0, none⟩) n n) n (ints O) ∧ Below w2.heap.size w2 wr)
    case atStart => exact ⟨0, List.replicate n 0, by simp [Hid], rfl, ⟨by simp, fun j hj => by omega⟩, by simpa using hob, hb3⟩
    case round =>
      obtain ⟨k, O, HK, rfl, HO, ho, hb⟩ := hrel
      clear x3 z3 hob
      rcases gk with _ | gi
      · obtain rfl : k = n := HK.out
        have xr := x2.call hb
        have zr := z2.call hb
        have hbw := bl_call hb02 hb
        have hsz := hb.size
        have hOr := (own_rd ho).1
        have HPA := HPR O HO.out
        have hOl := HO.out.1
        clear HPR HST HIN HO
        obtain ⟨wo, rfl⟩ : ∃ wo, wo = wr := ⟨_, rfl⟩
        have y9 : Bx (wo.alloc (.cells #[.int .i64 k, .slice none 0 0] 24)) wo.heap.size 24 #[.int .i64 k, .slice none 0 0] := Bx.new wo _ _
        have hbn : Below wo.heap.size wo (wo.alloc (.cells #[.int .i64 k, .slice none 0 0] 24)) := bl_alloc (Below.refl _ _) _
        have hs9 : (wo.alloc (.cells #[.int .i64 k, .slice none 0 0] 24)).heap.size = wo.heap.size + 1 := by simp
        obtain ⟨c0, c1, _⟩ := xr.two
        go_wp2_with (fail)
        clear c0 c1
        go_loopg [10] k (fun gk iv wr => ∃ (a : Nat) (v : Value), Hid (a + gk = k) ∧ iv = .int .i64 (a : Int) ∧ Bx wr wo.heap.size 24 #[.int .i64 k, v] ∧ wr.ownsRow (wo.heap.size + 1) 69 2 v (pairsTo (oldF l O) k a).length (cellsP (pairsTo (oldF l O) k a)) ∧ wo.heap.size + 1 ≤ wr.heap.size ∧ Below wo.heap.size wo wr)
        case atStart => exact ⟨0, .slice none 0 0, by simp [Hid], rfl, y9, World.ownsRow_nil _ _ _ _, by omega, hbn⟩
        case round =>
          obtain ⟨a, v, HA, rfl, ya, hoa, hsa, hba⟩ := hrel
          clear y9 hbn hs9
          have xa := xr.call hba
          obtain ⟨c0, c1, _⟩ := xa.two
          rcases gk with _ | gj
          · obtain rfl : a = k := HA.out
            obtain ⟨A9, c9, rfl⟩ := own_form hoa
            have za := zr.call hba
            obtain ⟨d0, d1, _⟩ := ya.two
            obtain ⟨f0, f1, f2, f3⟩ := za.two
            have zF := za.set2 (.int .i64 a) (.slice A9 (pairsTo (oldF l O) a a).length c9)
            have hbF := bl_set (bl_set (bl_call hbw hba) (g := w.heap.size + 1) (i := 0) (by omega) (.int .i64 a)) (g := w.heap.size + 1) (i := 1) (by omega) (.slice A9 (pairsTo (oldF l O) a a).length c9)
            have hzo := zr.lt
            have hoF := own_base (ownsRow_setCell_below (ownsRow_setCell_below hoa (a := ⟨w.heap.size + 1, 0, none⟩) (by simp only []; omega) (.int .i64 a)) (a := ⟨w.heap.size + 1, 1, none⟩) (by simp only []; omega) (.slice A9 (pairsTo (oldF l O) a a).length c9)) (show w.heap.size ≤ wo.heap.size + 1 by omega)
            clear hoa
            generalize pairsTo (oldF l O) a a = M at *
            go_wp2_with (fail)
            refine bodyPost_ret (results_cell_tmp rfl _ _ (w.heap.size + 1) 24 _ (0, 0) _ _ rfl rfl zF Try.underlying24 rfl (by kernel_rfl)) rfl ?_
            refine ⟨A9, c9, ?_, ?_, hbF⟩
            · rw [HPA.out]; rfl
            · rw [HPA.out]; exact hoF
          · have hak : a < k := by have h := HA.out; omega
            have hak' : (a : Int) < (k : Int) := by omega
            have hPl := pairsTo_len (oldF l O) k a
            have hPb : a * k ≤ 36 := Nat.mul_le_mul (by omega : a ≤ 6) h6
            have HPS := Lib.hid (pairsTo_succ (oldF l O) k a)
            go_wp2_with (fail)
            go_loopg [11] (k - (a + 1)) (fun gk iv wr => ∃ (b : Nat) (v : Value), Hid (b + gk = k) ∧ Hid (a < b) ∧ iv = .int .i64 (b : Int) ∧ Bx wr wo.heap.size 24 #[.int .i64 k, v] ∧ wr.ownsRow (wo.heap.size + 1) 69 2 v (pairsTo (oldF l O) k a ++ rowTo (oldF l O) a b).length (cellsP (pairsTo (oldF l O) k a ++ rowTo (oldF l O) a b)) ∧ wo.heap.size + 1 ≤ wr.heap.size ∧ Below wo.heap.size wo wr)
            case atStart => exact ⟨a + 1, v, by simp only [Hid]; omega, by simp [Hid], by go_num, ya, by rw [rowTo_zero, List.append_nil]; exact hoa, hsa, hba⟩
            case round =>
              obtain ⟨b, v, HB, HAB, rfl, yb, hob, hsb, hbb⟩ := hrel
              clear ya hoa hsa hba xa c0 c1
              have xb := xr.call hbb
              obtain ⟨c0, c1, _⟩ := xb.two
              rcases gk with _ | gl
              · obtain rfl : b = k := HB.out
                rw [← HPS.out] at hob
                go_wp2_with (fail)
                go_roundg gj
                case rel => exact ⟨a + 1, v, by have h := HA.out; show _ = _; omega, by go_num, yb, hob, hsb, hbb⟩
                case measure => omega
              · have hbk : b < k := by have h := HB.out; omega
                have hbk' : (b : Int) < (k : Int) := by omega
                have HRS := Lib.hid (rowTo_succ (oldF l O) HAB.out)
                have hRl := rowTo_len (oldF l O) a b
                obtain ⟨b1, o1, he1, _, hc⟩ := hOr.at_ (k := a) (by rw [ints_length, hOl]; exact hak)
                injection he1 with he1
                injection he1 with e1 e2
                subst e1 e2
                have HCA : ∀ W, Below wo.heap.size wo W → Hid (W.cell? ⟨w2.heap.size, a, none⟩ = some (.int .i64 (O.getD a 0)) ∧ W.cell? ⟨w2.heap.size, b, none⟩ = some (.int .i64 (O.getD b 0))) := fun W hW => by
                  obtain ⟨b1, o1, he1, _, hc⟩ := (hOr.later hW).at_ (k := a) (by rw [ints_length, hOl]; exact hak)
                  injection he1 with he1
                  injection he1 with e1 e2
                  subst e1 e2
                  have p0 := hc a _ (ints_get (by rw [hOl]; exact hak))
                  have p1 := hc b _ (ints_get (by rw [hOl]; exact hbk))
                  rw [Nat.zero_add] at p0 p1
                  exact ⟨p0, p1⟩
                have HLKa := HLK (O.getD a 0) (O.getD b 0)
                have HF : Hid (oldF l O a b = linkB l (O.getD a 0) (O.getD b 0)) := rfl
                generalize O.getD a 0 = ua at *
                generalize O.getD b 0 = ub at *
                generalize pairsTo (oldF l O) k a = P at *
                generalize rowTo (oldF l O) a b = N at *
                have hPN : (P ++ N).length ≤ 60 := by rw [List.length_append]; omega
                have hC : Below wr.heap.size wr wr.drew := (Below.refl _ _).drew
                have HCC := fun W (hW : Below wr.heap.size wr W) => Lib.hid ((xb.call hW).two)
                have HCB := fun W (hW : Below wr.heap.size wr W) => HCA W (bl_call hbb hW)
                have HRR := fun W (hW : Below wr.heap.size wr W) => Lib.hid (hr.later (bl_call hbw (bl_call hbb hW)))
                clear hc HCA
                cases hq : linkB l ua ub with
                | false =>
                  have HX : Hid (P ++ rowTo (oldF l O) a (b + 1) = P ++ N) := by show _ = _; rw [HRS.out, HF.out, hq]; rfl
                  rw [hq] at HLKa
                  clear HRS HF hq
                  generalize P ++ N = PN at *
                  go_wp2_with (fail)
                  refine wp_region_low (hC) (by kernel_rfl) (by kernel_rfl) ?_
                  repeat (first
                    | go_big_quiet_skip
                    | (go_big_quiet_want
                       apply Exists.intro
                       refine And.intro (fun W hW => ?_) ?_
                       · (obtain ⟨c0, c1, _⟩ := (HCC W hW).out; obtain ⟨p0, p1⟩ := (HCB W hW).out)
                         go_simp
                         first
                           | exact rfl
                           | ((refine (HLKa W (HRR W hW).out).out.mono ?_; rintro e w4 ⟨rfl, hb4⟩; exact ⟨rfl, bl_call hW hb4⟩))
                       try go_simp
                       go_big_quiet_on))
                  refine wpQuiet_nil ?_
                  intro w9 hb9
                  have hob9 := own_call hob hb9
                  have yb9 := yb.call hb9
                  have hs9 := hb9.size
                  go_wp2_with (fail)
                  go_roundg gl
                  case rel => exact ⟨b + 1, v, by have h := HB.out; show _ = _; omega, by have h := HAB.out; show _ < _; omega, by go_num, yb9, by rw [HX.out]; exact hob9, by omega, bl_call hbb hb9⟩
                  case measure => omega
                | true =>
                  have HX : Hid (P ++ rowTo (oldF l O) a (b + 1) = (P ++ N) ++ [((a : Int), (b : Int))]) := by show _ = _; rw [HRS.out, HF.out, hq, List.append_assoc]; rfl
                  rw [hq] at HLKa
                  clear HRS HF hq
                  generalize P ++ N = PN at *
                  go_wp2_with (fail)
                  refine wp_region_low (hC) (by kernel_rfl) (by kernel_rfl) ?_
                  repeat (first
                    | go_big_quiet_skip
                    | (go_big_quiet_want
                       apply Exists.intro
                       refine And.intro (fun W hW => ?_) ?_
                       · (obtain ⟨c0, c1, _⟩ := (HCC W hW).out; obtain ⟨p0, p1⟩ := (HCB W hW).out)
                         go_simp
                         first
                           | exact rfl
                           | ((refine (HLKa W (HRR W hW).out).out.mono ?_; rintro e w4 ⟨rfl, hb4⟩; exact ⟨rfl, bl_call hW hb4⟩))
                       try go_simp
                       go_big_quiet_on))
                  refine wpQuiet_nil ?_
                  intro w9 hb9
                  have hob9 := own_call hob hb9
                  have yb9 := yb.call hb9
                  have hs9 := hb9.size
                  have hbb9 := bl_call hbb hb9
                  obtain ⟨A1, c1', rfl⟩ := own_form hob9
                  have hba : Below w9.heap.size w9 (w9.alloc (.cells #[.int .i64 a, .int .i64 b] 69)) := bl_alloc (Below.refl _ _) _
                  have hnew : Rd (w9.alloc (.cells #[.int .i64 a, .int .i64 b] 69)) (some ⟨w9.heap.size, 0, none⟩) (cellsP [((a : Int), (b : Int))]) := Bx.rd (cs := cellsP [((a : Int), (b : Int))]) (Bx.new w9 _ _)
                  have hown' := own_call hob9 hba
                  have hszA := hba.size
                  obtain ⟨A2, c2, W2, hrun, ho2, hg2⟩ := run_append_rows (P := Try.prog) (w9.alloc (.cells #[.int .i64 a, .int .i64 b] 69)) (wo.heap.size + 1) 22 69 i0 _ 2 16 Try.underlying22 hi hz0 hz1 hz2 rfl (by decide) _ _ _ hown' (some ⟨w9.heap.size, 0, none⟩) 1 1 (cellsP [((a : Int), (b : Int))]) rfl (cellsP_one _) hnew (by unfold maxLen; omega) (by omega) (by omega)
                  have hbl : Below (wo.heap.size + 1) w9 W2 := Below.trans (hba.mono (by omega)) (grown_below hown' hg2 (by omega))
                  rw [← cellsP_append] at ho2
                  have hy2 : Bx W2 wo.heap.size 24 #[.int .i64 k, .slice A1 PN.length c1'] := (hbl.block _ (by omega)).trans yb9
                  have E1 := Lib.hid hrun
                  have hsW := hbl.size
                  have hy9 := yb9.lt
                  obtain ⟨d0, d1, _⟩ := yb9.two
                  obtain ⟨e0, e1, _⟩ := (yb9.call hba).two
                  obtain ⟨g0, g1, g2, g3⟩ := hy2.two
                  have hrel2 := Lib.hid (And.intro (hy2.set 1 (.slice A2 (PN.length + 1) c2)) (And.intro (ownsRow_setCell_below ho2 (a := ⟨wo.heap.size, 1, none⟩) (by simp) (.slice A2 (PN.length + 1) c2)) (And.intro (show wo.heap.size + 1 ≤ (W2.setCell ⟨wo.heap.size, 1, none⟩ (.slice A2 (PN.length + 1) c2)).heap.size by simp; omega) (bl_set (hbb9.trans (hbl.mono (by omega))) (g := wo.heap.size) (i := 1) (by omega) (.slice A2 (PN.length + 1) c2)))))
                  clear hrun hown' ho2 hg2 hba hnew hbl hy2 hob9 yb9 hob yb
                  go_wp2_with (at_builtin; refine wpList_append_eqR rfl _ _ 22 rfl _ _ _ W2 rfl rfl E1.out ?_)
                  go_roundg gl
                  case rel => exact ⟨b + 1, .slice A2 (PN.length + 1) c2, by have h := HB.out; show _ = _; omega, by have h := HAB.out; show _ < _; omega, by go_num, hrel2.out.1, by rw [HX.out, List.length_append, List.length_singleton]; exact hrel2.out.2.1, hrel2.out.2.2.1, hrel2.out.2.2.2⟩
                  case measure => omega
      · have hkn : k < n := by have h := HK.out; omega
        have hkn' : (k : Int) < (n : Int) := by omega
        have hxr := x2.call hb
        obtain ⟨c0, c1, _⟩ := hxr.two
        have hIN := HIN k hkn
        rw [nuO, Int.toNat_natCast] at hIN
        have hOS := HST O k HO.out hkn
        obtain ⟨bq, oq, rfl, hbq, hc⟩ := (hs.later (bl_call hb02 hb)).at_ (k := k) (by rw [ints_length]; omega)
        have p0 := hc k _ (ints_get (by omega))
        have hkq' : (k : Int) < (q.length : Int) := by omega
        have hOl := HO.out.1
        generalize q.getD k 0 = z at *
        obtain ⟨z, rfl⟩ := Int.eq_ofNat_of_zero_le hIN.1
        rw [Int.toNat_natCast] at hOS
        have hzO : z < O.length := by omega
        have hz' : (z : Int) < (n : Int) := hIN.2
        rw [← hOl] at ho
        obtain ⟨g, he, hg, n0, f0, ho'⟩ := own_putI ho hzO (k : Int)
        cases he
        rw [List.length_set, hOl] at ho'
        have HREL := Lib.hid (And.intro hOS (And.intro ho' (hb.setCell (p := ⟨w2.heap.size, z, none⟩) (Nat.le_refl _) (.int .i64 k))))
        clear ho ho' hc hOS
        go_wp2_with (fail)
        go_roundg gi
        case rel => exact ⟨k + 1, _, by have h := HK.out; show _ = _; omega, by go_num, HREL.out.1, HREL.out.2.1, HREL.out.2.2⟩
        case measure => omega
end Go.Proofs.Ytjgpfnnokdcgoaa

/- The walk of the law on a trap with other numbers of the zones. -/
namespace Go.Proofs.Ytjgpfnnokdcgoaa
open Go.RowKit Go.Maps

theorem old_some {n : Nat} {q : List Int} (ho : orderB n q = true) : ∀ k, k ≤ n → ∃ O, OldOk q O n k
  | 0, _ => ⟨List.replicate n 0, by simp, fun j hj => by omega⟩
  | k + 1, h => by
    obtain ⟨O, hO⟩ := old_some ho k (by omega)
    exact ⟨_, hO.step ho (by omega)⟩
theorem ren_law {Z : Int} {l : List (Int × Int)} {q p : List Int} (hE : renE Z l q = 0) (hp : placeE Z l p = 0) :
    renZ Z l q = Z ∧ (placeE Z (renG Z l q) (nuP q p) = 0 ∧ reachG Z (renG Z l q) (nuP q p) = reachG Z l p ∧ farG Z (renG Z l q) (nuP q p) = farG Z l p) ∧ ∀ x ∈ p, 0 ≤ x ∧ x < (q.length : Int) := by
  rcases renE_cases Z l q with ⟨h1, h2, _⟩ | ⟨h1, h2, h3, _⟩ | ⟨h1, h2, _, hG, hZ⟩
  · rw [h2] at hE; exact absurd hE h1
  · rw [h3] at hE; exact absurd hE (by decide)
  · obtain ⟨n, rfl, _, _⟩ := trap_nat h1
    rw [hG, hZ]
    obtain ⟨O, hO⟩ := old_some h2 n (Nat.le_refl _)
    have hl := (orderB_iff.1 h2).1
    exact ⟨rfl, renames_facts hp h2 (fun x => (List.mergeSort_perm _ _).mem_iff) (ren_trap h1 h2 hO), fun x hx => by have := (placeE_v hp).inn x hx; omega⟩
theorem renG_len {Z : Int} {l : List (Int × Int)} {q : List Int} : (renG Z l q).length ≤ l.length := by
  rw [renG]
  split
  · rw [sortP_len, renL, List.length_map]; exact Nat.le_refl _
  · simp
theorem nuP_step {q p : List Int} {k : Nat} (hk : k < p.length) : (nuP q p).take (k + 1) = (nuP q p).take k ++ [nuO q (p.getD k 0)] := by
  rw [List.take_succ_eq_append_getElem (by simpa using hk)]
  simp [hk]

set_option maxRecDepth 100000 in
set_option maxHeartbeats 8000000 in
theorem zoneRenames_walk (Z : Int) (A : Option Addr) (l : List (Int × Int)) (c : Nat) (B : Option Addr) (p : List Int) (d : Nat) (C : Option Addr) (q : List Int) (f : Nat) (w : World) (_hcap : l.length ≤ c) (_hcap' : p.length ≤ d) (hcap2 : q.length ≤ f) (hr : Rd w A (cellsP l)) (hs : Rd w B (ints p)) (hs2 : Rd w C (ints q)) :
    Calls Try.prog 15 #[trapV Z A l.length c, .slice B p.length d, .slice C q.length f] w fun e w' => e = .returned (.bool true) ∧ Below w.heap.size w w' := by
  obtain ⟨i0, hi, hz0, hz1, hz2⟩ := info_parts int_info
  have HL := fun w => Lib.hid (long_c Z A l.length c w)
  have HM := fun w => Lib.hid (many_c B p.length d w)
  have HM2 := fun w => Lib.hid (many_c C q.length f w)
  have HK := fun w => Lib.hid (known_c w)
  have x0 := Bx.new w 24 #[.int .i64 Z, .slice A l.length c]
  have hb0 := bl_alloc (Below.refl w.heap.size w) (.cells #[.int .i64 Z, .slice A l.length c] 24)
  generalize hw0 : w.alloc (.cells #[.int .i64 Z, .slice A l.length c] 24) = w0 at *
  obtain ⟨c0, c1, _⟩ := x0.two
  by_cases hlong : 60 < l.length
  · rw [decide_eq_true hlong] at HL
    go_enter Try.func15, Try.ntmps15
    go_wp2_with (fail)
    refine (HL _).out.mono ?_
    rintro e w1 ⟨rfl, hb1⟩
    go_wp2_with (fail)
    refine (HK _).out.mono ?_
    rintro e w2 ⟨rfl, hb2⟩
    go_wp2_with (fail)
    go_ret
    exact ⟨rfl, bl_call hb0 (bl_call hb1 hb2)⟩
  · rw [decide_eq_false hlong] at HL
    by_cases hmany : 40 < p.length
    · rw [decide_eq_true hmany] at HM
      go_enter Try.func15, Try.ntmps15
      go_wp2_with (fail)
      refine (HL _).out.mono ?_
      rintro e w1 ⟨rfl, hb1⟩
      go_wp2_with (fail)
      refine (HM _).out.mono ?_
      rintro e w2 ⟨rfl, rfl⟩
      go_wp2_with (fail)
      refine (HK _).out.mono ?_
      rintro e w2 ⟨rfl, hb2⟩
      go_wp2_with (fail)
      go_ret
      exact ⟨rfl, bl_call hb0 (bl_call hb1 hb2)⟩
    · rw [decide_eq_false hmany] at HM
      by_cases hmany2 : 40 < q.length
      · rw [decide_eq_true hmany2] at HM2
        go_enter Try.func15, Try.ntmps15
        go_wp2_with (fail)
        refine (HL _).out.mono ?_
        rintro e w1 ⟨rfl, hb1⟩
        go_wp2_with (fail)
        refine (HM _).out.mono ?_
        rintro e w2 ⟨rfl, rfl⟩
        go_wp2_with (fail)
        refine (HM2 _).out.mono ?_
        rintro e w2 ⟨rfl, rfl⟩
        go_wp2_with (fail)
        refine (HK _).out.mono ?_
        rintro e w2 ⟨rfl, hb2⟩
        go_wp2_with (fail)
        go_ret
        exact ⟨rfl, bl_call hb0 (bl_call hb1 hb2)⟩
      · rw [decide_eq_false hmany2] at HM2
        have hlen : l.length ≤ 1000 := by omega
        have hlen' : p.length ≤ 1000 := by omega
        have hlen2 : q.length ≤ 1000 := by omega
        have hgl := renG_len (Z := Z) (l := l) (q := q)
        have H1 := fun w1 hr1 hs1 => Lib.hid (Rename_c Z A C l q c f w1 hlen hlen2 hr1 hs1)
        have H2 := fun w1 hr1 hs1 => Lib.hid (rRename_c Z A C l q c f w1 hlen hlen2 hcap2 hr1 hs1)
        have H3 := fun X Y c2 d2 w1 hr1 hs1 => Lib.hid (sameT_c (renZ Z l q) (renZ Z l q) X Y (renG Z l q) (renG Z l q) c2 d2 w1 (by omega) hr1 hs1)
        have H4 := fun w1 hr1 hs1 => Lib.hid (Reach_c Z A B l p c d w1 hlen hlen' hr1 hs1)
        have H5 := fun w1 hr1 hs1 => Lib.hid (Farthest_c Z A B l p c d w1 hlen hlen' hr1 hs1)
        have H6 := fun X Y c2 d2 w1 hr1 hs1 => Lib.hid (Reach_c (renZ Z l q) X Y (renG Z l q) (nuP q p) c2 d2 w1 (by omega) (by simpa using hlen') hr1 hs1)
        have H7 := fun X Y c2 d2 w1 hr1 hs1 => Lib.hid (Farthest_c (renZ Z l q) X Y (renG Z l q) (nuP q p) c2 d2 w1 (by omega) (by simpa using hlen') hr1 hs1)
        have HLW := fun h h' => @ren_law Z l q p h h'
        have HNS := fun k (h : k < p.length) => Lib.hid (nuP_step (q := q) h)
        have hNl : (nuP q p).length = p.length := by rw [nuP, List.length_map]
        rw [hNl] at H6 H7
        unfold OutT at H1 H2
        simp only [true_and, decide_true] at H3
        clear hlong hmany hmany2
        generalize renE Z l q = E at *
        generalize renZ Z l q = Y at *
        generalize renG Z l q = m at *
        generalize hPE : placeE Z l p = PE at *
        generalize reachG Z l p = RR at *
        generalize farG Z l p = FF at *
        clear hPE
        go_enter Try.func15, Try.ntmps15
        go_wp2_with (fail)
        refine (HL _).out.mono ?_
        rintro e w1 ⟨rfl, hb1⟩
        go_wp2_with (fail)
        refine (HM _).out.mono ?_
        rintro e w2 ⟨rfl, rfl⟩
        go_wp2_with (fail)
        refine (HM2 _).out.mono ?_
        rintro e w2 ⟨rfl, rfl⟩
        have y1 := x0.call hb1
        have hb01 := bl_call hb0 hb1
        clear c0 c1
        obtain ⟨c0, c1, _⟩ := y1.two
        go_wp2_with (fail)
        refine (H1 _ (hr.later hb01) (hs2.later hb01)).out.mono ?_
        rintro e w3 ⟨A3, c3, rfl, ho3, hb3⟩
        have hr3 := (own_rd ho3).1
        have q3 := Bx.new w3 24 #[.int .i64 Y, .slice A3 m.length c3]
        have hal3 := bl_alloc (Below.refl w3.heap.size w3) (.cells #[.int .i64 Y, .slice A3 m.length c3] 24)
        have hb03 := bl_call (bl_call hb01 hb3) hal3
        have hr3' := hr3.later hal3
        have y3 := (y1.call hb3).call hal3
        clear c0 c1 hr3 ho3 hal3 H1
        obtain ⟨c0, c1, _⟩ := y3.two
        go_wp2_with (fail)
        generalize hw3' : w3.alloc (.cells #[.int .i64 Y, .slice A3 m.length c3] 24) = v3 at *
        refine (H2 _ (hr.later hb03) (hs2.later hb03)).out.mono ?_
        rintro e w4 ⟨A4, c4, rfl, ho4, hb4⟩
        have hr4 := (own_rd ho4).1
        have q4 := (q3.call hb4).alloc (.cells #[.int .i64 Y, .slice A4 m.length c4] 24)
        have z4 := Bx.new w4 24 #[.int .i64 Y, .slice A4 m.length c4]
        have hb4' := bl_alloc hb4 (.cells #[.int .i64 Y, .slice A4 m.length c4] 24)
        have hr4' := hr4.later (bl_alloc (Below.refl w4.heap.size w4) (.cells #[.int .i64 Y, .slice A4 m.length c4] 24))
        clear c0 c1 hr4 ho4 H2
        obtain ⟨c0, c1, _⟩ := q4.two
        obtain ⟨d0, d1, _⟩ := z4.two
        go_wp2_with (fail)
        generalize hw4' : w4.alloc (.cells #[.int .i64 Y, .slice A4 m.length c4] 24) = v4 at *
        refine (H3 _ _ _ _ _ (hr3'.later hb4') hr4').out.mono ?_
        rintro e w5 ⟨rfl, hb5⟩
        have hbv5 := bl_call hb4' hb5
        have y5 := y3.call hbv5
        have hb05 := bl_call hb03 hbv5
        clear c0 c1 d0 d1 H3
        obtain ⟨c0, c1, _⟩ := y5.two
        go_wp2_with (fail)
        refine (H4 _ (hr.later hb05) (hs.later hb05)).out.mono ?_
        rintro e w6 ⟨rfl, hb6⟩
        have hbv6 := bl_call hbv5 hb6
        have y6 := y5.call hb6
        have hb06 := bl_call hb05 hb6
        clear c0 c1 H4
        obtain ⟨c0, c1, _⟩ := y6.two
        go_wp2_with (fail)
        refine (H5 _ (hr.later hb06) (hs.later hb06)).out.mono ?_
        rintro e w7 ⟨rfl, hb7⟩
        have hbv7 := bl_call hbv6 hb7
        have hb07 := bl_call hb06 hb7
        have q7 := q3.call hbv7
        have hr7 := hr3'.later hbv7
        clear c0 c1 H5
        obtain ⟨c0, c1, _⟩ := q7.two
        rcases (by omega : ¬ E = 0 ∨ (E = 0 ∧ ¬ PE = 0) ∨ (E = 0 ∧ PE = 0)) with he | ⟨rfl, hp⟩ | ⟨rfl, rfl⟩
        · go_wp2_with (fail)
          refine (HK _).out.mono ?_
          rintro e w8 ⟨rfl, hb8⟩
          go_wp2_with (fail)
          go_ret
          exact ⟨rfl, bl_call hb07 hb8⟩
        · go_wp2_with (fail)
          refine (HK _).out.mono ?_
          rintro e w8 ⟨rfl, hb8⟩
          go_wp2_with (fail)
          go_ret
          exact ⟨rfl, bl_call hb07 hb8⟩
        · obtain ⟨rfl, ⟨g1, g2, g3⟩, hin⟩ := HLW rfl rfl
          rw [g1, g2] at H6
          rw [g1, g3] at H7
          clear HLW g1 g2 g3
          generalize hnp : nuP q p = P at *
          clear hnp
          go_wp2_with (fail)
          clear c0 c1
          go_loopg [15, 16] p.length (fun gk v iv wr => ∃ k : Nat, Hid (k + gk = p.length) ∧ iv = .int .i64 (k : Int) ∧ wr.ownsRow w7.heap.size 3 1 v (P.take k).length (ints (P.take k)) ∧ Below w7.heap.size w7 wr)
          case atStart => exact ⟨0, by simp [Hid], rfl, World.ownsRow_nil _ _ _ _, Below.refl _ _⟩
          case round =>
            obtain ⟨k, HKK, rfl, ho, hb⟩ := hrel
            rcases gk with _ | gi
            · obtain rfl : k = p.length := HKK.out
              rw [← hNl, List.take_length, hNl] at ho
              obtain ⟨A8, c8, rfl⟩ := own_form ho
              have hr8 := (own_rd ho).1
              have hb08 := bl_call hb07 hb
              have q8 := q7.call hb
              obtain ⟨c0, c1, _⟩ := q8.two
              go_wp2_with (fail)
              refine (H6 _ _ _ _ _ (hr7.later hb) hr8).out.mono ?_
              rintro e w9 ⟨rfl, hb9⟩
              have hb09 := bl_call hb08 hb9
              have q9 := q8.call hb9
              clear c0 c1
              obtain ⟨c0, c1, _⟩ := q9.two
              go_wp2_with (fail)
              refine (H7 _ _ _ _ _ ((hr7.later hb).later hb9) (hr8.later hb9)).out.mono ?_
              rintro e w10 ⟨rfl, hb10⟩
              have hb10' := bl_call hb09 hb10
              go_wp2_with (fail)
              refine (HK _).out.mono ?_
              rintro e w11 ⟨rfl, hb11⟩
              go_wp2_with (fail)
              go_ret
              exact ⟨rfl, bl_call hb10' hb11⟩
            · have hkl : k < p.length := by have h := HKK.out; omega
              have hkl' : (k : Int) < (p.length : Int) := by omega
              have hPk : (P.take k).length = k := by rw [List.length_take]; omega
              have hPk1 : (P.take (k + 1)).length = k + 1 := by rw [List.length_take]; omega
              have HN := HNS k hkl
              rw [hPk] at ho
              have hb0r := bl_call hb07 hb
              obtain ⟨b1, o1, rfl, _, hc⟩ := (hs.later hb0r).at_ (k := k) (by simpa using hkl)
              have p0 := hc k _ (ints_get hkl)
              have hx := hin (p.getD k 0) (by simp [hkl])
              generalize p.getD k 0 = x at *
              obtain ⟨x, rfl⟩ := Int.eq_ofNat_of_zero_le hx.1
              have hxq : x < q.length := by omega
              have hxq' : (x : Int) < (q.length : Int) := hx.2
              obtain ⟨b2, o2, rfl, _, hc2⟩ := (hs2.later hb0r).at_ (k := x) (by simpa using hxq)
              have p1 := hc2 x _ (ints_get hxq)
              have HN2 : Hid (P.take (k + 1) = P.take k ++ [q.getD x 0]) := by show _ = _; rw [HN.out, nuO, Int.toNat_natCast]
              generalize q.getD x 0 = y at *
              have hbA : Below wr.heap.size wr (wr.alloc (.cells #[.int .i64 y] 3)) := bl_alloc (Below.refl _ _) _
              have hnew : Rd (wr.alloc (.cells #[.int .i64 y] 3)) (some ⟨wr.heap.size, 0, none⟩) (ints [y]) := Bx.rd (cs := ints [y]) (Bx.new wr _ _)
              have hoA := own_call ho hbA
              have hszA := hbA.size
              have hszb := hb.size
              clear hc hc2 hx HN
              go_wp2_with (at_builtin; refine wpList_append_any rfl _ _ 25 rfl w7.heap.size 3 i0 _ 8 Try.underlying25 hi hz0 hz1 hz2 rfl _ k (ints (P.take k)) rfl hoA (some ⟨wr.heap.size, 0, none⟩) [y] 1 rfl hnew (by unfold maxLen; simp only [List.length_singleton]; omega) (by simp only [List.length_singleton]; omega) (by omega) ?_)
              intro A9 c9 w9 ho9 hg9
              have hb9 : Below w7.heap.size w7 w9 := (bl_call hb hbA).trans (grown_below hoA hg9 (by omega))
              have ho9' : w9.ownsRow w7.heap.size 3 1 (.slice A9 (k + 1) c9) (P.take (k + 1)).length (ints (P.take (k + 1))) := by
                rw [hPk1, HN2.out]
                have e : ints (P.take k ++ [y]) = ints (P.take k) ++ ints [y] := by simp [ints]
                rw [e]; exact ho9
              clear ho9 hg9 hoA ho hnew hbA
              go_wp2_with (fail)
              go_roundg gi
              case rel => exact ⟨k + 1, by have h := HKK.out; show _ = _; omega, by go_num, ho9', hb9⟩
              case measure => omega
end Go.Proofs.Ytjgpfnnokdcgoaa
