/- The chapter's examples: 'known' answers true. -/
import Derived.Test.YteoajadcdjaalaaDepth
import Derived.Test.YteoajadcdjaalaaSame
namespace Go.Proofs.Yteoajadcdjaalaa
open Go.RowKit

def exA : List G := [(0, 0, -1, 4), (1, 1, -1, 2), (0, 0, -1, 12)]
def exB : List G := [(0, 0, -1, 8), (1, 0, -1, 8), (0, 0, -1, 8)]
theorem exA_red : redL 2 exA = [(1, 1, -1, 2)] ∧ validE 2 exA = 0 := by decide +kernel
theorem exB_all : isShortB 1 exB = true ∧ validE 1 exB = 0 ∧ (lysL 1 exB).length = 3 := by decide +kernel
theorem rd_newG (w : World) (l : List G) : Rd (w.alloc (.cells (cellsG l).toArray 23)) (some ⟨w.heap.size, 0, none⟩) (cellsG l) := Bx.rd (Bx.new w _ _)
theorem rd_part {w : World} {b : Nat} {l : List G} (k : Nat) (h : Rd w (some ⟨b, 0, none⟩) (cellsG l)) : Rd w (some ⟨b, k * 4, none⟩) (cellsG (l.drop k)) := by
  rcases h with h | ⟨b', o, he, hb, hc⟩
  · left
    have : l = [] := by cases l with | nil => rfl | cons x t => simp [cellsG] at h
    subst this; simp [cellsG]
  · injection he with he
    injection he with e1 e2
    subst e1 e2
    refine .inr ⟨b, k * 4, rfl, hb, fun j v hv => ?_⟩
    have hd : (cellsG l)[k * 4 + j]? = some v := by
      have e : (cellsG l).drop (k * 4) = cellsG (l.drop k) := by
        clear hv hc
        induction k generalizing l with
        | zero => simp
        | succ k ih =>
          cases l with
          | nil => simp [cellsG]
          | cons x t =>
            have := ih (l := t)
            rw [Nat.succ_mul]
            simp only [cellsG, List.flatMap_cons, List.drop_succ_cons] at this ⊢
            rw [← this]
            simp
      rw [← e, List.getElem?_drop] at hv
      exact hv
    have := hc _ _ hd
    rwa [Nat.zero_add] at this

set_option maxRecDepth 100000 in
set_option maxHeartbeats 1000000 in
theorem known_c (w : World) : Calls Try.prog 20 #[] w fun e w' => e = .returned (.bool true) ∧ Below w.heap.size w w' := by
  have hra := rd_newG w exA
  have HA : Hid (Calls Try.prog 41 #[.int .i64 2, .slice (some ⟨w.heap.size, 0, none⟩) 3 3] (w.alloc (.cells (cellsG exA).toArray 23)) (OutG [(1, 1, -1, 2)] 0 (w.alloc (.cells (cellsG exA).toArray 23)))) := by
    have h := Reduce_c 2 _ exA 3 _ (by decide) hra
    rw [exA_red.1, exA_red.2] at h
    exact h
  have hba : Below w.heap.size w (w.alloc (.cells (cellsG exA).toArray 23)) := bl_alloc (Below.refl _ _) _
  go_enter Try.func20, Try.ntmps20
  go_wp2_with (fail)
  refine HA.out.mono ?_
  rintro e w1 ⟨A', c', rfl, ho1, hb1⟩
  have hb1' := bl_call hba hb1
  have hra1 := hra.later hb1
  have hrl1 := (own_rd ho1).1
  have hrb := rd_newG w1 exB
  have hbb : Below w1.heap.size w1 (w1.alloc (.cells (cellsG exB).toArray 23)) := bl_alloc (Below.refl _ _) _
  have HI : Hid (Calls Try.prog 39 #[.int .i64 1, .slice (some ⟨w1.heap.size, 0, none⟩) 3 3] (w1.alloc (.cells (cellsG exB).toArray 23)) fun e w' => e = .returned (.tuple #[.bool true, .int .i64 0]) ∧ Below (w1.alloc (.cells (cellsG exB).toArray 23)).heap.size (w1.alloc (.cells (cellsG exB).toArray 23)) w') := by
    have h := IsShort_c 1 _ exB 3 _ (by decide) hrb
    rw [exB_all.1, exB_all.2.1] at h
    exact h
  go_wp2_with (fail)
  refine HI.out.mono ?_
  rintro e w2 ⟨rfl, hb2⟩
  have hb12 := bl_call hbb hb2
  have HD : Hid (Calls Try.prog 35 #[.int .i64 1, .slice (some ⟨w1.heap.size, 0, none⟩) 3 3] w2 fun e w' => e = .returned (.tuple #[.int .i64 3, .int .i64 0]) ∧ Below w2.heap.size w2 w') := by
    have h := Depth_c 1 _ exB 3 w2 (by decide) (hrb.later hb2)
    rw [exB_all.2.1, exB_all.2.2] at h
    exact h
  go_wp2_with (fail)
  refine HD.out.mono ?_
  rintro e w3 ⟨rfl, hb3⟩
  have hb13 := bl_call hb12 hb3
  have HS : Hid (Calls Try.prog 27 #[.slice A' 1 c', .slice (some ⟨w.heap.size, 4, none⟩) 1 2] w3 fun e w' => e = .returned (.bool true) ∧ Below w3.heap.size w3 w') := by
    have hp := rd_part 1 (hra1.later hb13)
    have hq : Rd w3 (some ⟨w.heap.size, 4, none⟩) (cellsG [((1 : Int), (1 : Int), (-1 : Int), (2 : Int))]) := by
      rcases hp with h | ⟨b, o, he, hb, hc⟩
      · simp [exA, cellsG] at h
      · exact .inr ⟨b, o, he, hb, fun k v hv => hc k v (by
          have hlt : k < (cellsG [((1 : Int), (1 : Int), (-1 : Int), (2 : Int))]).length := (List.getElem?_eq_some_iff.1 hv).1
          have e : cellsG (exA.drop 1) = cellsG [((1 : Int), (1 : Int), (-1 : Int), (2 : Int))] ++ cellsG [((0 : Int), (0 : Int), (-1 : Int), (12 : Int))] := rfl
          rw [e, List.getElem?_append_left hlt]; exact hv)⟩
    have h := same_c _ _ [((1 : Int), (1 : Int), (-1 : Int), (2 : Int))] [((1 : Int), (1 : Int), (-1 : Int), (2 : Int))] c' 2 w3 (by decide) (hrl1.later hb13) hq
    have e : sameL [((1 : Int), (1 : Int), (-1 : Int), (2 : Int))] [((1 : Int), (1 : Int), (-1 : Int), (2 : Int))] = true := by decide +kernel
    rw [e] at h
    exact h
  go_wp2_with (fail)
  refine HS.out.mono ?_
  rintro e w4 ⟨rfl, hb4⟩
  go_wp2_with (fail)
  go_ret
  exact ⟨rfl, bl_call hb1' (bl_call hb13 hb4)⟩
end Go.Proofs.Yteoajadcdjaalaa
