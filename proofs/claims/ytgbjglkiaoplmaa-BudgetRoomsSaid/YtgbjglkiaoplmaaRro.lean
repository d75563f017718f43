/- By how much an item can be used more: the document's Room. -/
import Derived.Test.YtgbjglkiaoplmaaRom
import Derived.Test.YtgbjglkiaoplmaaRos
import Derived.Test.YtgbjglkiaoplmaaRdl
namespace Go.Proofs.Ytgbjglkiaoplmaa
open Go.RowKit

theorem grw_zero {l : List It} {i : Nat} (hi : i < l.length) : grw l i 0 = l := by
  unfold grw
  rw [Int.add_zero]
  have e : (⟨(l.getD i it0).u, (l.getD i it0).n, (l.getD i it0).d⟩ : It) = l[i] := by
    rw [List.getD_eq_getElem?_getD, List.getElem?_eq_getElem hi]; rfl
  rw [e]
  exact List.set_getElem_self hi
theorem grw_at {l : List It} {i : Nat} (hi : i < l.length) (n : Int) : (grw l i n).getD i it0 = ⟨(l.getD i it0).u + n, (l.getD i it0).n, (l.getD i it0).d⟩ := by rw [grw_get hi, if_pos rfl]
theorem grw_succ {l : List It} {i : Nat} (hi : i < l.length) (n : Nat) : (grw l i (n : Int)).set i ⟨((grw l i (n : Int)).getD i it0).u + 1, ((grw l i (n : Int)).getD i it0).n, ((grw l i (n : Int)).getD i it0).d⟩ = grw l i ((n + 1 : Nat) : Int) := by
  rw [grw_at hi]
  unfold grw
  rw [List.set_set]
  congr 1
  show (⟨(l.getD i it0).u + (n : Int) + 1, _, _⟩ : It) = ⟨(l.getD i it0).u + ((n + 1 : Nat) : Int), _, _⟩
  congr 1
  omega
set_option maxRecDepth 100000 in
set_option maxHeartbeats 4000000 in
theorem rRoom_c (A : Option Addr) (l : List It) (cap : Nat) (m e k : Int) (w : World) (hlen : l.length ≤ 1000) (hr : Rd w A (cellsI l)) :
    Calls Try.prog 50 #[.slice A l.length cap, .agg #[.int .i64 m, .int .i64 e], .int .i64 k] w (OutRm l m e k w) := by
  obtain ⟨W0, hW0⟩ : ∃ W0, W0 = w.alloc (.cells #[.int .i64 m, .int .i64 e] 30) := ⟨_, rfl⟩
  have hR : Bx W0 w.heap.size 30 #[.int .i64 m, .int .i64 e] := by rw [hW0]; exact Bx.new w _ _
  have hb0 : Below w.heap.size w W0 := by rw [hW0]; exact bl_alloc (Below.refl _ _) _
  have hr0 := hr.later hb0
  have HV := Lib.hid (rValidate_c A l cap W0 hlen hr0)
  have HW := fun w => Lib.hid (within_c k 0 ((l.length : Int) - 1) w)
  have HL := fun w => Lib.hid (risLimit_c m e w)
  have hin : inB k 0 ((l.length : Int) - 1) = (decide (0 ≤ k) && decide (k ≤ (l.length : Int) - 1)) := rfl
  have qs : wrap64 ((l.length : Int) - 1) = (l.length : Int) - 1 := IntWalk.wrap64_in _ ⟨by omega, by omega⟩
  clear hr
  unfold OutRm
  rcases witE_cases l k with ⟨hv, hE, _⟩ | ⟨hv, h1, hE, _⟩ | ⟨hv, i, rfl, hil, hE, _⟩
  · have hE' : rmE l m e k = valE l := by unfold rmE; rw [hE, if_neg hv]
    rw [hE']
    clear hE hE' hin qs
    generalize valE l = ev at *
    subst hW0
    go_enter Try.func50, Try.ntmps50
    go_wp2_with (fail)
    refine HV.out.mono ?_
    rintro f w1 ⟨rfl, hb1⟩
    go_wp2_with (fail)
    go_ret2
    exact ⟨⟨0, rfl, fun _ => rfl, fun h => absurd h hv⟩, bl_call hb0 hb1⟩
  · have hz : inB k 0 ((l.length : Int) - 1) = false := by
      rw [hin, ← Bool.not_eq_true, Bool.and_eq_true, decide_eq_true_eq, decide_eq_true_eq]; omega
    have hE' : rmE l m e k = 4 := by unfold rmE; rw [hE, if_neg (by decide)]
    rw [hE']
    rw [hv] at HV
    rw [hz] at HW
    clear hE hE' hv hz h1 hin
    subst hW0
    go_enter Try.func50, Try.ntmps50
    go_wp2_with (fail)
    refine HV.out.mono ?_
    rintro f w1 ⟨rfl, hb1⟩
    go_wp2_with (fail)
    refine (HW _).out.mono ?_
    rintro f w2 ⟨rfl, rfl⟩
    go_wp2_with (fail)
    go_ret2
    exact ⟨⟨0, rfl, fun _ => rfl, fun h => absurd h (by decide)⟩, bl_call hb0 hb1⟩
  · have hz : inB (i : Int) 0 ((l.length : Int) - 1) = true := by
      rw [hin, Bool.and_eq_true, decide_eq_true_eq, decide_eq_true_eq]; omega
    rw [hz] at HW
    by_cases hL : limB m e = true
    rotate_left
    · have hL' : limB m e = false := by rw [Bool.not_eq_true] at hL; exact hL
      have hE' : rmE l m e i = 1 := by unfold rmE; rw [if_pos hE, if_neg hL]
      rw [hE']
      rw [hv] at HV
      rw [hL'] at HL
      clear hE hE' hv hz hin hL hL'
      subst hW0
      go_enter Try.func50, Try.ntmps50
      go_wp2_with (fail)
      refine HV.out.mono ?_
      rintro f w1 ⟨rfl, hb1⟩
      obtain ⟨r0, r1, _, _⟩ := (hR.call hb1).two
      go_wp2_with (fail)
      refine (HW _).out.mono ?_
      rintro f w2 ⟨rfl, rfl⟩
      go_wp2_with (fail)
      refine (HL _).out.mono ?_
      rintro f w3 ⟨rfl, hb3⟩
      go_wp2_with (fail)
      go_ret2
      exact ⟨⟨0, rfl, fun _ => rfl, fun h => absurd h (by decide)⟩, bl_call (bl_call hb0 hb1) hb3⟩
    have hE' : rmE l m e i = if closeB l m e = true then 0 else 8 := by unfold rmE; rw [if_pos hE, if_pos hL]
    have hok := val_ok hv
    have hl6 := (valE_ok hv).1
    have HC0 := fun D c' W hr => Lib.hid (rcloses_c D l c' 8 m e W hok hl6 (by decide) hL hr)
    have HCk := fun (n : Nat) D c' W (hn : n ≤ 1000) hr => Lib.hid (rcloses_c D (grw l i (n : Int)) c' 2000 m e W (grw_ok hok hil (by omega) (by omega)) (by rw [grw_len]; exact hl6) (by decide) hL hr)
    have HK : Hid (∀ n : Nat, closeB (grw l i (n : Int)) m e = gwB l i m e n) := fun _ => rfl
    have HS := Lib.hid (fun n => @grw_succ l i hil n)
    have HU := Lib.hid (fun (n : Nat) (hn : n ≤ 1000) => show 0 ≤ ((grw l i (n : Int)).getD i it0).u ∧ ((grw l i (n : Int)).getD i it0).u ≤ 1008 by
      rw [grw_at hil]
      have h1 := (hok i hil).u0
      have h2 := (hok i hil).um
      exact ⟨by show 0 ≤ _ + _; omega, by show _ + _ ≤ _; omega⟩)
    have HZ := Lib.hid (grw_zero hil)
    have HN := Lib.hid (fun n => grw_len l i n)
    rw [hv] at HV
    rw [hL] at HL
    rw [hE']
    clear hE hE' hv hz hin hok hL
    have hil' : (i : Int) < (l.length : Int) := by omega
    generalize closeB l m e = z at *
    subst hW0
    go_enter Try.func50, Try.ntmps50
    go_wp2_with (fail)
    refine HV.out.mono ?_
    rintro f w1 ⟨rfl, hb1⟩
    obtain ⟨r0, r1, _, _⟩ := (hR.call hb1).two
    go_wp2_with (fail)
    refine (HW _).out.mono ?_
    rintro f w2 ⟨rfl, rfl⟩
    go_wp2_with (fail)
    refine (HL _).out.mono ?_
    rintro f w3 ⟨rfl, hb3⟩
    clear r0 r1 HW HV HL qs
    generalize hW0 : w.alloc (.cells #[.int .i64 m, .int .i64 e] 30) = W0 at *
    have hb03 := bl_call hb1 hb3
    have hXb : Below w3.heap.size w3 (w3.alloc (.cells #[] 50)) := bl_alloc (Below.refl _ _) _
    have hb03X := bl_call hb03 hXb
    obtain ⟨A', c', w4, hE1, hown, g1⟩ := append_items W0.heap.size (w3.alloc (.cells #[] 50)) _ [] A l cap (own_emptyI hb03.size (Bx.new w3 _ _)) (hr0.later hb03X) (by simp) (by omega) hb03X.size
    have hb04 := hb03X.trans g1
    simp only [List.length_nil, Nat.zero_add, List.nil_append] at hE1 hown
    have E1 := Lib.hid hE1
    clear hE1 g1 hXb hb03X
    obtain ⟨r0, r1, _, _⟩ := (hR.call hb04).two
    go_wp2_with (at_builtin; refine wpList_append_eq rfl _ _ 22 rfl _ _ _ w4 rfl rfl E1.out ?_)
    have HC4 := HC0 A' c' w4 (own_rd hown).1
    refine HC4.out.mono ?_
    rintro f w5 ⟨rfl, hb5⟩
    have hb05 := bl_call hb04 hb5
    have hown5 := own_call hown hb5
    clear hown r0 r1 HC4 HC0
    cases z
    · go_wp2_with (fail)
      go_ret2
      exact ⟨rfl, bl_call hb0 hb05⟩
    go_wp2_with (fail)
    go_loopg [10] 1000 (fun gk iv wr => ∃ k : Nat, Hid (k + gk = 1000) ∧ iv = .int .i64 (k : Int) ∧ wr.ownsRow W0.heap.size 50 3 (.slice A' l.length c') l.length (cellsI (grw l i (k : Int))) ∧ Hid (∀ j, j < k → gwB l i m e (j + 1) = true) ∧ Below W0.heap.size W0 wr)
    case atStart => exact ⟨0, by simp [Hid], rfl, by show World.ownsRow _ _ _ _ _ _ (cellsI (grw l i 0)); rw [HZ.out]; exact hown5, fun j h => absurd h (by omega), hb05⟩
    case round =>
      clear hown5
      obtain ⟨k, HKn, rfl, hown, HP, hb⟩ := hrel
      rcases gk with _ | gi
      · have hk : k = 1000 := HKn.out
        have hk' : ¬ (k : Int) < 1000 := by omega
        go_wp2_with (fail)
        go_ret2
        exact ⟨⟨1000, rfl, 1000, i, rfl, rfl, ⟨Nat.le_refl _, fun j hj => HP.out j (by omega), fun h => absurd h (by omega)⟩⟩, bl_call hb0 hb⟩
      · have hkN : k < 1000 := by have := HKn.out; omega
        have hkN' : (k : Int) < 1000 := by omega
        obtain ⟨g, rfl, hbg, hgl, q1, q2, hput⟩ := own_putU hown (HN.out (k : Int)) hil
        have hu := HU.out k (by omega)
        have hput2 := hput (((grw l i (k : Int)).getD i it0).u + 1)
        rw [HS.out k] at hput2
        have hbs := bl_set hb hbg (i := i * 3) (.int .i64 (((grw l i (k : Int)).getD i it0).u + 1))
        have HC5 := HCk (k + 1) _ c' _ (by omega) (own_rd hput2).1
        rw [HK.out, HN.out] at HC5
        have hw : wrap64 (((grw l i (k : Int)).getD i it0).u + 1) = ((grw l i (k : Int)).getD i it0).u + 1 := IntWalk.wrap64_in _ ⟨by omega, by omega⟩
        have HO := Lib.hid hput2
        clear hput hput2 hown hu HCk HU
        generalize ((grw l i (k : Int)).getD i it0).u = u at *
        obtain ⟨r0, r1, _, _⟩ := (hR.call hbs).two
        clear HK HS HZ HN
        generalize hz : gwB l i m e (k + 1) = z at *
        have HZ := Lib.hid hz
        clear hz
        go_wp2_with (fail)
        refine HC5.out.mono ?_
        rintro f w6 ⟨rfl, hb6⟩
        have hb06 := bl_call hbs hb6
        have hown6 := own_call HO.out hb6
        clear r0 r1 HC5 HO
        cases z
        · go_wp2_with (fail)
          go_ret2
          exact ⟨⟨k, rfl, k, i, rfl, rfl, ⟨by omega, HP.out, fun _ => HZ.out⟩⟩, bl_call hb0 hb06⟩
        · go_wp2_with (fail)
          go_roundg gi
          case rel =>
            refine ⟨k + 1, by have := HKn.out; show _ = _; omega, by go_num, hown6, fun j hj => ?_, hb06⟩
            rcases Nat.lt_or_ge j k with x | x
            · exact HP.out j x
            · obtain rfl : j = k := by omega
              exact HZ.out
          case measure => omega
end Go.Proofs.Ytgbjglkiaoplmaa
