/- slices.Sort at a row of numbers that the call has made. -/
import Derived.Test.YtjgpfnnokdcgoaaRnear
import Derived.Test.YtjgpfnnokdcgoaaShelfZ
import Derived.Shelf.Sort.Plain
import Derived.Shelf.Slices.In.SortNone
import Derived.Sort.OwnSortedInts
import Derived.Lib.OwnBridge
namespace Go.Proofs.Ytjgpfnnokdcgoaa
open Go.RowKit

def sortI (xs : List Int) : List Int := xs.mergeSort fun x y => decide (x ≤ y)
theorem sortI_len (xs : List Int) : (sortI xs).length = xs.length := List.length_mergeSort _
theorem sort_c (base c : Nat) (A : Option Addr) (xs : List Int) (w : World) (hlen : xs.length ≤ 1000) (ho : w.ownsRow base 3 1 (.slice A xs.length c) xs.length (ints xs)) :
    Calls Try.prog 90 #[.slice A xs.length c] w fun e w' => e = .returned (.tuple #[]) ∧ w'.ownsRow base 3 1 (.slice A xs.length c) xs.length (ints (sortI xs)) ∧ w.grownBy w' (Value.slice A xs.length c).ownBlock := by
  rcases List.eq_nil_or_concat xs with rfl | ⟨_, _, hne⟩
  · exact (Any.slices_Sort_int_none Try.laysSort A c w).mono fun e w' ⟨he, hw⟩ => ⟨he, by subst hw; rw [show sortI [] = [] by simp [sortI]]; exact ho, by subst hw; exact ⟨rfl, rfl, rfl, Nat.le_refl _, fun _ _ _ => rfl⟩⟩
  · obtain ⟨g, cap1, hv, hbg, hgl, hnc, hcm, hlen1, hH⟩ := Lib.holds_of_ownsRow (show w.ownsRow base 3 1 (.slice A xs.length c) xs.length (xs.map (Value.int .i64)) from ho) (by rw [hne]; simp)
    injection hv with e1 _ e2
    subst e1 e2
    obtain ⟨cur, hheap, hcs⟩ : ∃ cur : Array Value, w.heap[g]? = some (.cells cur 3 (0, 0)) ∧ cur.size = c * 1 := by
      rcases ho.2 with ⟨h, _⟩ | ⟨g', cap', cur, h, _, h3, _, _, h5, _⟩
      · cases h
      · cases h; exact ⟨cur, h3, h5⟩
    refine (Any.slices_Sort_int Try.laysSort g 0 c xs w hH hgl (by omega)).mono fun e w' ⟨he, n, os, hw⟩ => ⟨he, ?_, ?_⟩
    · rw [hw]
      exact ownsRow_sortedI (base := base) (n := n) (os := os) (ts := sortI xs) (ss := xs) (sortI_len xs) hbg hheap hnc hcm hcs
    · rw [hw]
      exact grownBy_sortedI (w := w) (g := g) (n := n) (os := os) (sortI xs).toArray
end Go.Proofs.Ytjgpfnnokdcgoaa
