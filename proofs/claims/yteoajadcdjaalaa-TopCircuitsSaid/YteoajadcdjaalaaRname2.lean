/- The document's Name. A name has the gates of its circuit. -/
import Derived.Test.YteoajadcdjaalaaRname
import Derived.Test.YteoajadcdjaalaaAlike
namespace Go.Proofs.Yteoajadcdjaalaa
open Go.RowKit

theorem front_perm {l : List G} {i : Nat} (hi : i < l.length) : (l.getD i g0 :: l.eraseIdx i).Perm l := by
  have hx : l.getD i g0 = l[i] := by simp [hi]
  rw [hx, List.eraseIdx_eq_take_drop_succ]
  have h : (l[i] :: (l.take i ++ l.drop (i + 1))).Perm (l.take i ++ l[i] :: l.drop (i + 1)) := List.perm_middle.symm
  rw [← List.drop_eq_getElem_cons hi, List.take_append_drop] at h
  exact h
theorem nm_perm : ∀ (k : Nat) (l : List G), l.length = k → (nmTo k l).Perm l
  | 0, l, h => by rw [List.length_eq_zero_iff.1 h]; exact List.Perm.refl _
  | k + 1, l, h => by
    have hne : l ≠ [] := by rintro rfl; simp at h
    have hb := bstL_lt hne
    rw [nmTo]
    exact ((nm_perm k _ (by rw [List.length_eraseIdx]; simp [hb]; omega)).cons _).trans (front_perm hb)
theorem name_perm (l : List G) : (nameL l).Perm l := by rw [nameL_nm]; exact nm_perm _ l rfl
theorem perm_all {l m : List G} (h : l.Perm m) (p : G → Bool) : l.all p = m.all p := by
  rw [Bool.eq_iff_iff, List.all_eq_true, List.all_eq_true]
  exact ⟨fun hl x hx => hl x (h.mem_iff.2 hx), fun hm x hx => hm x (h.mem_iff.1 hx)⟩
theorem validE_perm {n : Int} {l m : List G} (h : l.Perm m) : validE n l = validE n m := by
  unfold validE gatesE
  rw [perm_all h, h.length_eq]
theorem alike_name {n : Int} {l : List G} (h : validE n l = 0) : alikeB n l (nameL l) = true ∧ bothE n l (nameL l) = 0 := by
  have hb : bothE n l (nameL l) = 0 := by rw [bothE, if_pos h, validE_perm (name_perm l), h]
  exact ⟨by rw [alikeB, hb, nameL_idem]; simp [sameL], hb⟩

set_option maxRecDepth 100000 in
theorem rName_c (n : Int) (A : Option Addr) (l : List G) (c : Nat) (w : World) (hlen : l.length ≤ 1000) (hcap : l.length ≤ c) (hr : Rd w A (cellsG l)) :
    Calls Try.prog 28 #[.int .i64 n, .slice A l.length c] w (OutG (nmL n l) (validE n l) w) := by
  have HV := Lib.hid (rvalidate_c n A l c w hlen hr)
  by_cases hv : validE n l = 0
  · have HS := fun (w1 : World) (h : Rd w1 A (cellsG l)) => Lib.hid (rname_c A l c w1 hlen hcap (validE_gs hv) h)
    have HB : nmL n l = nmTo l.length l := by rw [nmL, if_pos hv, nameL_nm]
    have HL : (nmTo l.length l).length = l.length := (nm_perm _ l rfl).length_eq
    rw [hv] at HV
    rw [hv, HB]
    clear HB
    have HL' : Hid ((nmTo l.length l).length = l.length) := HL
    clear HL
    go_enter Try.func28, Try.ntmps28
    go_wp2_with (go_at_call 25; refine HV.out.mono ?_; rintro e w1 ⟨rfl, hb1⟩)
    refine (HS _ (hr.later hb1)).out.mono ?_
    rintro e w2 ⟨A2, c2, rfl, ho2, hb2⟩
    go_wp2_with (fail)
    go_ret2
    exact ⟨A2, c2, by rw [HL'.out]; rfl, by rw [HL'.out]; exact own_base ho2 hb1.size, bl_call hb1 hb2⟩
  · have HB : nmL n l = [] := by rw [nmL, if_neg hv]
    rw [HB]
    clear HB
    generalize validE n l = ev at hv HV
    go_enter Try.func28, Try.ntmps28
    go_wp2_with (go_at_call 25; refine HV.out.mono ?_; rintro e w1 ⟨rfl, hb1⟩)
    go_ret2
    exact ⟨none, 0, rfl, World.ownsRow_nil _ _ _ _, hb1⟩
end Go.Proofs.Yteoajadcdjaalaa
