/- The numbers that the document gives. -/
import Derived.Test.YtjgpfnnokdcgoaaSwapZ
import Derived.Test.YtjgpfnnokdcgoaaSameM
import Derived.Test.YtjgpfnnokdcgoaaLine
import Derived.KernelRfl
namespace Go.Proofs.Ytjgpfnnokdcgoaa
open Go.RowKit Go.Maps

theorem knP : placeE 3 lineL [0, 1] = 0 := by decide
theorem knM : movesG 3 lineL [0, 1] = [(1, 2)] := by decide
theorem knR : (reachL lineL 3 [0, 1]).length = 3 := by kernel_rfl
theorem knF : (findL (reachL lineL 3 [0, 1]) (swapP [0, 1] 0 1)).isSome = false := by kernel_rfl
theorem kMoves (A B : Option Addr) (w : World) (hr : Rd w A (cellsP lineL)) (hs : Rd w B (ints [0, 1])) : Calls Try.prog 29 #[trapV 3 A 2 2, .slice B 2 2] w (OutM [(1, 2)] 0 w) := by
  have h := Moves_c 3 A B lineL [0, 1] 2 2 w (by decide) (by decide) hr hs
  rw [knM, knP] at h
  exact h
theorem kReach (A B : Option Addr) (w : World) (hr : Rd w A (cellsP lineL)) (hs : Rd w B (ints [0, 1])) : Calls Try.prog 39 #[trapV 3 A 2 2, .slice B 2 2] w fun e w' => e = .returned (.tuple #[.int .i64 3, .int .i64 0]) ∧ Below w.heap.size w w' := by
  have h := Reach_c 3 A B lineL [0, 1] 2 2 w (by decide) (by decide) hr hs
  rw [reachG, if_pos knP, knP] at h
  have e : (reachL lineL (3 : Int).toNat [0, 1]).length = 3 := knR
  rw [e] at h
  exact h
theorem kSwap (A B : Option Addr) (w : World) (hr : Rd w A (cellsP lineL)) (hs : Rd w B (ints [0, 1])) : Calls Try.prog 43 #[trapV 3 A 2 2, .slice B 2 2, .int .i64 0, .int .i64 1] w fun e w' => e = .returned (.tuple #[.bool false, .int .i64 0]) ∧ Below w.heap.size w w' := by
  have h := CanSwap_c 3 A B lineL [0, 1] 2 2 0 1 w (by decide) (by decide) hr hs
  have e1 : swapG 3 lineL [0, 1] 0 1 = false := by
    have e : (findL (reachL lineL (3 : Int).toNat [0, 1]) (swapP [0, 1] (0 : Int).toNat (1 : Int).toNat)).isSome = false := knF
    rw [swapG, e]; simp
  have e2 : swapE 3 lineL [0, 1] 0 1 = 0 := by rw [swapE, if_pos knP]; decide
  rw [e1, e2] at h
  exact h

set_option maxRecDepth 100000 in
set_option maxHeartbeats 2000000 in
theorem known_c (w : World) : Calls Try.prog 19 #[] w fun e w' => e = .returned (.bool true) ∧ Below w.heap.size w w' := by
  have HL := fun w => Lib.hid (line_c w)
  have HM := fun A B w hr hs => Lib.hid (kMoves A B w hr hs)
  have HR := fun A B w hr hs => Lib.hid (kReach A B w hr hs)
  have HS := fun A B w hr hs => Lib.hid (kSwap A B w hr hs)
  have H2 : ∀ w : World, Rd (w.alloc (.cells #[.int .i64 0, .int .i64 1] 3)) (some ⟨w.heap.size, 0, none⟩) (ints [0, 1]) := fun w => Bx.rd (cs := ints [0, 1]) (Bx.new w _ _)
  go_enter Try.func19, Try.ntmps19
  go_wp2_with (fail)
  refine (HL _).out.mono ?_
  rintro e w1 ⟨g1, rfl, hr1, hb1⟩
  go_wp2_with (fail)
  refine (HM _ _ _ (hr1.later (bl_alloc (Below.refl _ _) _)) (H2 _)).out.mono ?_
  rintro e w2 ⟨A2, c2, rfl, ho2, hb2⟩
  have hb12 := bl_call (bl_alloc hb1 _) hb2
  go_wp2_with (fail)
  refine (HL _).out.mono ?_
  rintro e w3 ⟨g3, rfl, hr3, hb3⟩
  have hb13 := bl_call hb12 hb3
  go_wp2_with (fail)
  refine (HR _ _ _ (hr3.later (bl_alloc (Below.refl _ _) _)) (H2 _)).out.mono ?_
  rintro e w4 ⟨rfl, hb4⟩
  have hb14 := bl_call (bl_alloc hb13 _) hb4
  go_wp2_with (fail)
  refine (HL _).out.mono ?_
  rintro e w5 ⟨g5, rfl, hr5, hb5⟩
  have hb15 := bl_call hb14 hb5
  go_wp2_with (fail)
  refine (HS _ _ _ (hr5.later (bl_alloc (Below.refl _ _) _)) (H2 _)).out.mono ?_
  rintro e w6 ⟨rfl, hb6⟩
  have hb16 := bl_call (bl_alloc hb15 _) hb6
  have hr2 := (own_rd ho2).1.later (bl_call (bl_alloc (bl_call (bl_call (bl_alloc hb3 (.cells #[.int .i64 0, .int .i64 1] 3)) hb4) hb5) (.cells #[.int .i64 0, .int .i64 1] 3)) hb6)
  have hr9 : Rd (w6.alloc (.cells #[.int .i64 1, .int .i64 2] 54)) (some ⟨w6.heap.size, 0, none⟩) (cellsP [(1, 2)]) := Bx.rd (cs := cellsP [(1, 2)]) (Bx.new w6 _ _)
  have HQ := Lib.hid (sameM_c A2 (some ⟨w6.heap.size, 0, none⟩) [(1, 2)] [(1, 2)] c2 1 _ (by decide) (hr2.later (bl_alloc (Below.refl _ _) (.cells #[.int .i64 1, .int .i64 2] 54))) hr9)
  rw [show decide ([((1 : Int), (2 : Int))] = [(1, 2)]) = true by decide] at HQ
  go_wp2_with (fail)
  refine HQ.out.mono ?_
  rintro e w7 ⟨rfl, hb7⟩
  go_wp2_with (fail)
  go_ret
  exact ⟨rfl, bl_call (bl_alloc hb16 _) hb7⟩
end Go.Proofs.Ytjgpfnnokdcgoaa
