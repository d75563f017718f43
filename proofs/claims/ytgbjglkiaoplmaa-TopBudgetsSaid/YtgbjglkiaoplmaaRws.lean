/- The items with the greatest share: the document's Worst. -/
import Derived.Test.YtgbjglkiaoplmaaWst
namespace Go.Proofs.Ytgbjglkiaoplmaa
open Go.RowKit

theorem parts_one (x : It) : partsL [x] = shareP x := by simp [partsL, partsTo]
theorem Rd.single {w : World} {b o : Nat} {l : List It} (h : Rd w (some ⟨b, o, none⟩) (cellsI l)) {k : Nat} (hk : k < l.length) : Rd w (some ⟨b, o + k * 3, none⟩) (cellsI [l.getD k it0]) := by
  have h1 := (h.dropped k).taken 1
  have e : (l.drop k).take 1 = [l.getD k it0] := by
    rw [List.drop_eq_getElem_cons hk]
    show [l[k]] = _
    simp [hk]
  rw [e] at h1; exact h1
/-- The parts of one item. -/
theorem rpart1_c (b o : Nat) (l : List It) (k c : Nat) (w : World) (hv : OkIs 8 l) (hk : k < l.length) (hr : Rd w (some ⟨b, o, none⟩) (cellsI l)) :
    Calls Try.prog 63 #[.slice (some ⟨b, o + k * 3, none⟩) 1 c] w fun e w' => e = .returned (.int .i64 (shK l k)) ∧ Below w.heap.size w w' := by
  have := rparts_c (some ⟨b, o + k * 3, none⟩) [l.getD k it0] c 8 w (fun j hj => by
    have : j = 0 := by simp at hj; exact hj
    subst this; exact hv k hk) (by simp) (by decide) (hr.single hk)
  rw [parts_one] at this
  exact this
set_option maxRecDepth 100000 in
set_option maxHeartbeats 4000000 in
theorem rWorst_c (A : Option Addr) (l : List It) (cap : Nat) (w : World) (hlen : l.length ≤ 1000) (hcap : l.length ≤ cap) (hr : Rd w A (cellsI l)) :
    Calls Try.prog 34 #[.slice A l.length cap] w (OutN (wstL l) (valE l) w) := by
  have HV := Lib.hid (rValidate_c A l cap w hlen hr)
  by_cases hv : valE l = 0
  rotate_left
  · have hE : wstL l = [] := by unfold wstL; rw [if_neg hv]
    have hv' : (valE l == 0) = false := by rw [beq_eq_false_iff_ne]; exact hv
    rw [hE]
    clear hE
    generalize valE l = z at *
    go_enter Try.func34, Try.ntmps34
    go_wp2_with (fail)
    refine HV.out.mono ?_
    rintro e w1 ⟨rfl, hb1⟩
    go_wp2_with (fail)
    go_ret2
    exact ⟨none, 0, rfl, .inl rfl, hb1⟩
  · have hE : wstL l = wstTo l l.length := by unfold wstL; rw [if_pos hv]
    have HOK := Lib.hid (val_ok hv)
    have HT := Lib.hid (fun k (hk : k < l.length) => @top_most l (share_nn hv) k hk)
    have HP := Lib.hid (fun b o (hA : A = some ⟨b, o, none⟩) k c w (hk : k < l.length) (hr : Rd w A (cellsI l)) => rpart1_c b o l k c w HOK.out hk (by rw [← hA]; exact hr))
    rw [hE, hv]
    rw [hv] at HV
    clear hE hv
    have HS : Hid (∀ k, wstTo l (k + 1) = if topB l k = true then wstTo l k ++ [(k : Int)] else wstTo l k) := fun k => rfl
    have HL := Lib.hid (wstTo_len l)
    have HM : Hid (∀ k, mostTo l (k + 1) = max (mostTo l k) (shK l k)) := fun k => rfl
    go_enter Try.func34, Try.ntmps34
    go_wp2_with (fail)
    refine HV.out.mono ?_
    rintro e w1 ⟨rfl, hb1⟩
    clear HV
    go_wp2_with (fail)
    go_loopg [5, 6] l.length (fun gk sv iv wr => ∃ k : Nat, Hid (k + gk = l.length) ∧ iv = .int .i64 (k : Int) ∧ sv = .int .i64 (mostTo l k) ∧ Below w.heap.size w wr)
    case atStart => exact ⟨0, by simp [Hid], rfl, rfl, hb1⟩
    case round =>
      clear hb1
      obtain ⟨k, HK, rfl, rfl, hb⟩ := hrel
      rcases gk with _ | gi
      · obtain rfl : k = l.length := HK.out
        clear HM
        generalize mostTo l l.length = mm at *
        go_wp2_with (fail)
        go_loopg [7, 8] l.length (fun gk ov iv wr => ∃ (k : Nat) (D : Option Addr) (d : Nat), Hid (k + gk = l.length) ∧ iv = .int .i64 (k : Int) ∧ ov = .slice D (wstTo l k).length d ∧ wr.ownsRow w.heap.size 3 1 (.slice D (wstTo l k).length d) (wstTo l k).length (ints (wstTo l k)) ∧ Below w.heap.size w wr)
        case atStart => exact ⟨0, none, 0, by simp [Hid], rfl, rfl, World.ownsRow_nil _ _ _ _, hb⟩
        case round =>
          clear hb
          obtain ⟨k, D, d, HK, rfl, rfl, hown, hb⟩ := hrel
          rcases gk with _ | gi
          · obtain rfl : k = l.length := HK.out
            have hrd := (own_rd hown).1
            go_wp2_with (fail)
            go_ret2
            exact ⟨D, d, rfl, hrd, hb⟩
          · have hkl : k < l.length := by have := HK.out; omega
            have hkl' : (k : Int) < (l.length : Int) := by omega
            have q1 : (k : Int) + 1 ≤ (l.length : Int) := by omega
            have q2 : ¬ cap = k := by omega
            have q3 : k + 1 ≤ cap := by omega
            have q4 : (k : Int) + 1 ≤ (cap : Int) := by omega
            have q5 : (k : Int) ≤ (k : Int) + 1 := by omega
            have q6 : (0 : Int) ≤ (k : Int) + 1 := by omega
            have q8 : wrap64 ((k : Int) + 1) = (k : Int) + 1 := IntWalk.wrap64_in _ ⟨by omega, by omega⟩
            have hrk := Lib.hid (hr.later hb)
            obtain ⟨b, o, hAe, _⟩ := (hr.later hb).itm hkl
            have HPk := Lib.hid (fun c w hr => HP.out b o hAe k c w hkl hr)
            have HSk := Lib.hid (HS.out k)
            have HLk := HL.out k
            have HTk := HT.out k hkl
            generalize topB l k = z at *
            generalize wstTo l k = L at *
            generalize shK l k = x at *
            subst hAe
            cases z with
            | false =>
              have hx : (x == mm) = false := by rw [beq_eq_false_iff_ne]; exact of_decide_eq_false HTk.symm
              clear HTk
              go_wp2_with (fail)
              refine (HPk.out _ _ hrk.out).mono ?_
              rintro e w2 ⟨rfl, hb2⟩
              have hown2 := own_call hown hb2
              go_wp2_with (fail)
              go_roundg gi
              case rel => exact ⟨k + 1, D, d, by have := HK.out; show _ = _; omega, by go_num, by rw [HSk.out]; rfl, by rw [HSk.out]; exact hown2, bl_call hb hb2⟩
              case measure => omega
            | true =>
              have hx : (x == mm) = true := by rw [beq_iff_eq]; exact of_decide_eq_true HTk.symm
              clear HTk
              go_wp2_with (fail)
              refine (HPk.out _ _ hrk.out).mono ?_
              rintro e w2 ⟨rfl, hb2⟩
              have hown2 := own_call hown hb2
              have hb02 := bl_call hb hb2
              obtain ⟨A2, c2, w5, hrun, hown5, hb5, _⟩ := append_int w.heap.size w2 (.slice D L.length d) L (k : Int) hown2 (by omega) hb02.size
              have E1 := Lib.hid hrun
              have HSk' : Hid (wstTo l (k + 1) = L ++ [(k : Int)]) := HSk.out
              clear hrun hown2 hown
              go_wp2_with (at_builtin; refine wpList_append_eq rfl _ _ 40 rfl _ _ _ w5 rfl rfl E1.out ?_)
              go_roundg gi
              case rel =>
                refine ⟨k + 1, A2, c2, by have := HK.out; show _ = _; omega, by go_num, ?_, ?_, hb02.trans hb5⟩
                · rw [HSk'.out]; simp
                · rw [HSk'.out]; simpa using hown5
              case measure => omega
      · have hkl : k < l.length := by have := HK.out; omega
        have hkl' : (k : Int) < (l.length : Int) := by omega
        have q1 : (k : Int) + 1 ≤ (l.length : Int) := by omega
        have q2 : ¬ cap = k := by omega
        have q3 : k + 1 ≤ cap := by omega
        have q4 : (k : Int) + 1 ≤ (cap : Int) := by omega
        have q5 : (k : Int) ≤ (k : Int) + 1 := by omega
        have q6 : (0 : Int) ≤ (k : Int) + 1 := by omega
        have q8 : wrap64 ((k : Int) + 1) = (k : Int) + 1 := IntWalk.wrap64_in _ ⟨by omega, by omega⟩
        have hrk := Lib.hid (hr.later hb)
        obtain ⟨b, o, hAe, _⟩ := (hr.later hb).itm hkl
        have HPk := Lib.hid (fun c w hr => HP.out b o hAe k c w hkl hr)
        have HMk := Lib.hid (HM.out k)
        generalize mostTo l k = mm at *
        generalize shK l k = x at *
        subst hAe
        go_wp2_with (fail)
        refine (HPk.out _ _ hrk.out).mono ?_
        rintro e w2 ⟨rfl, hb2⟩
        go_wp2_with (fail)
        all_goals
          go_roundg gi
          case rel => exact ⟨k + 1, by have := HK.out; show _ = _; omega, by go_num, by rw [HMk.out]; first | rfl | (congr 1; omega), bl_call hb hb2⟩
          case measure => omega
end Go.Proofs.Ytgbjglkiaoplmaa
