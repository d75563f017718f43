/- A pulse from the end on. -/
import Derived.Test.YtpjdojjdhbmbjaaScale
import Derived.Test.YtpjdojjdhbmbjaaShelf
import Derived.Shelf.Slices.Clone
import Derived.Shelf.Slices.Reverse
import Derived.Lib.OwnBridge
namespace Go.Proofs.Ytpjdojjdhbmbjaa
open Go.RowKit Go.Shelf Go.Sort

def backL (p : List Int) : List Int := if validE p = 0 then p.reverse else []
/-- What both answer: a new row. -/
def BackOut (p : List Int) (w : World) (e : Ending) (w' : World) : Prop := ∃ A' c, e = .returned (.tuple #[.slice A' (backL p).length c, .int .i64 (validE p)]) ∧ w'.ownsRow w.heap.size 3 1 (.slice A' (backL p).length c) (backL p).length (ints (backL p)) ∧ Below w.heap.size w w'

set_option maxHeartbeats 800000 in
theorem back_c (A : Option Addr) (p : List Int) (cap : Nat) (w : World) (hr : Rd w A (ints p)) :
    Calls Try.prog 41 #[.slice A p.length cap] w (BackOut p w) := by
  have HV := Lib.hid (validate_c A p cap w hr)
  by_cases hv : validE p = 0
  · have hlen := validE_len hv
    have HO : Hid (∀ e w', (∃ A' c, e = .returned (.tuple #[.slice A' p.length c, .int .i64 0]) ∧ w'.ownsRow w.heap.size 3 1 (.slice A' p.length c) p.length (ints p.reverse) ∧ Below w.heap.size w w') → BackOut p w e w') := by
      rintro e w' ⟨A', c, rfl, h1, h2⟩
      refine ⟨A', c, ?_, ?_, h2⟩
      · rw [backL, if_pos hv, hv, List.length_reverse]
      · rw [backL, if_pos hv, List.length_reverse]; exact h1
    rw [hv] at HV
    clear hv
    by_cases h0 : 0 < p.length
    · obtain ⟨b, o, rfl, _, hc⟩ := hr.at_ (k := 0) (by simpa using h0)
      have hclone := Lib.hid (Any.slices_Clone_int Try.laysClone b o p.length cap p w (Nat.le_refl _) (by omega) (fun j hj => hc j _ (ints_get hj)))
      clear hc
      go_enter Try.func41, Try.ntmps41
      go_wp2_with (fail)
      refine HV.out.mono ?_
      rintro e w' ⟨rfl, rfl⟩
      go_wp2_with (fail)
      refine hclone.out.mono ?_
      rintro e w1 ⟨v1, rfl, hown, hnn, hbel⟩
      obtain ⟨g, cap1, rfl, hbg, _, _, hcm, hlen1, hH⟩ := Lib.holds_of_ownsRow hown hnn
      have hrev := Any.slices_Reverse_int Try.laysReverse g 0 cap1 (p.take p.length) w1 hH (by unfold maxLen at hcm; omega)
      rw [hlen1] at hrev
      have X : Aside (w1.ownsRow w.heap.size 3 1 (.slice (some ⟨g, 0, none⟩) p.length cap1) p.length ((p.take p.length).map (Value.int .i64)) ∧ Below w.heap.size w w1 ∧ w.heap.size ≤ g) := ⟨hown, hbel, hbg⟩
      clear hown hbel hH hnn
      go_wp2_with (fail)
      refine hrev.mono ?_
      rintro e w2 ⟨rfl, q, rfl⟩
      go_wp2_with (fail)
      go_ret2
      have hy : (p.take p.length).reverse.length = p.length := by simp
      have h1 := Lib.ownsRow_putRow (q := q) (ys := (p.take p.length).reverse) X.out.1 hy (Nat.le_refl p.length)
      rw [List.take_of_length_le (Nat.le_of_eq hy)] at h1
      exact HO.out _ _ ⟨_, _, rfl, by simpa [ints, List.map_reverse, List.map_take] using h1, Lib.below_putRow X.out.2.1 X.out.2.2⟩
    · have hp : p = [] := List.length_eq_zero_iff.1 (by omega)
      subst hp
      clear hr h0 hlen
      cases A with
      | none =>
        go_enter Try.func41, Try.ntmps41
        go_wp2_with (fail)
        refine HV.out.mono ?_
        rintro e w' ⟨rfl, rfl⟩
        go_wp2_with (first
          | (go_at_call 70; refine (Any.slices_Clone_int_nil Try.laysClone _ _ _).mono ?_; rintro e w' ⟨rfl, rfl⟩)
          | (go_at_call 71; refine (Any.slices_Reverse_int_empty Try.laysReverse none 0 _).mono ?_; rintro e w' ⟨rfl, rfl⟩))
        go_ret2
        exact HO.out _ _ ⟨none, 0, rfl, World.ownsRow_nil _ _ _ _, Below.refl _ _⟩
      | some a =>
        have hclone := Any.slices_Clone_int_zero Try.laysClone a cap w
        go_enter Try.func41, Try.ntmps41
        go_wp2_with (fail)
        refine HV.out.mono ?_
        rintro e w' ⟨rfl, rfl⟩
        go_wp2_with (fail)
        refine hclone.mono ?_
        rintro e w1 ⟨v1, rfl, hown, hnn, hbel⟩
        obtain ⟨g, cap1, rfl, _, _, _, _, _, _⟩ := Lib.holds_of_ownsRow (enc := Value.int .i64) (zs := []) hown hnn
        have X : Aside (w1.ownsRow w.heap.size 3 1 (.slice (some ⟨g, 0, none⟩) 0 cap1) 0 [] ∧ Below w.heap.size w w1) := ⟨hown, hbel⟩
        clear hown hbel hnn
        go_wp2_with (fail)
        refine (Any.slices_Reverse_int_empty Try.laysReverse _ _ _).mono ?_
        rintro e w2 ⟨rfl, rfl⟩
        go_wp2_with (fail)
        go_ret2
        exact HO.out _ _ ⟨_, _, rfl, X.out.1, X.out.2⟩
  · have hv' : (validE p != 0) = true := by simpa using hv
    have hL : backL p = [] := by rw [backL, if_neg hv]
    clear hv
    go_enter Try.func41, Try.ntmps41
    go_wp2_with (fail)
    refine HV.out.mono ?_
    rintro e w' ⟨rfl, rfl⟩
    go_wp2_with (fail)
    go_ret2
    exact ⟨none, 0, by rw [hL]; rfl, by rw [hL]; exact World.ownsRow_nil _ _ _ _, Below.refl _ _⟩

theorem rev_take {p : List Int} {k j : Nat} (hk : k < p.length) (hj : j = p.length - 1 - k) : p.reverse.take (k + 1) = p.reverse.take k ++ [p.getD j 0] := by
  subst hj
  rw [List.take_succ_eq_append_getElem (by simpa using hk), List.getElem_reverse]
  have : p.length - 1 - k < p.length := by omega
  simp [this]

set_option maxHeartbeats 800000 in
theorem rback_c (A : Option Addr) (p : List Int) (cap : Nat) (w : World) (hr : Rd w A (ints p)) :
    Calls Try.prog 42 #[.slice A p.length cap] w (BackOut p w) := by
  obtain ⟨i0, hi, hz0, hz1, hz2⟩ := info_parts int_info
  have HV := Lib.hid (rvalidate_c A p cap w hr)
  by_cases hv : validE p = 0
  · have hlen := validE_len hv
    have HO : Hid (∀ e w', (∃ A' c, e = .returned (.tuple #[.slice A' p.length c, .int .i64 0]) ∧ w'.ownsRow w.heap.size 3 1 (.slice A' p.length c) p.length (ints p.reverse) ∧ Below w.heap.size w w') → BackOut p w e w') := by
      rintro e w' ⟨A', c, rfl, h1, h2⟩
      refine ⟨A', c, ?_, ?_, h2⟩
      · rw [backL, if_pos hv, hv, List.length_reverse]
      · rw [backL, if_pos hv, List.length_reverse]; exact h1
    rw [hv] at HV
    clear hv
    go_enter Try.func42, Try.ntmps42
    go_wp2_with (fail)
    refine HV.out.mono ?_
    rintro e w' ⟨rfl, rfl⟩
    clear HV
    go_wp2_with (fail)
    go_loopw [5, 6] (fun v i wr => ∃ k : Nat, k ≤ p.length ∧ i = .int .i64 ((p.length : Int) - 1 - k) ∧ wr.ownsRow w.heap.size 3 1 v k (ints (p.reverse.take k)) ∧ Below w.heap.size w wr) (fun _ i _ => (intOf i + 1).toNat)
    case atStart => exact ⟨0, Nat.zero_le _, by simp, World.ownsRow_nil _ _ _ _, Below.refl _ _⟩
    case round =>
      obtain ⟨k, hk, rfl, hown, hb⟩ := hrel
      by_cases hlt : k < p.length
      · obtain ⟨j, hj, hjl⟩ : ∃ j : Nat, (p.length : Int) - 1 - k = j ∧ j = p.length - 1 - k := ⟨p.length - 1 - k, by omega, rfl⟩
        obtain ⟨bb, o, rfl, _, hc⟩ := (hr.later hb).at_ (k := j) (by simp; omega)
        have hck := hc j _ (ints_get (by omega))
        clear hc
        have HT := Lib.hid (rev_take hlt hjl)
        have hjp : (j : Int) < (p.length : Int) := by omega
        have hnx : (p.length : Int) - 1 - ((k + 1 : Nat) : Int) = (j : Int) - 1 := by omega
        have HN := Lib.hid hnx
        rw [hj]
        have HJ := Lib.hid hj
        clear hj hjl hnx
        generalize p.getD j 0 = f at hck HT
        generalize p.reverse.take k = L at hown HT
        go_wp2_with (at_builtin; refine wpList_append_own _ rfl _ _ 22 rfl w.heap.size 3 i0 _ 1 8 Try.underlying22 hi hz0 hz1 hz2 rfl (by decide) _ _ _ rfl (hown.alloc _) ⟨wr.heap.size, 0, none⟩ 1 1 [.int .i64 f] rfl rfl ?c1 ?c2 ?c3 ?c4 ?c5 ?_)
        case c1 =>
          intro j x hj
          have hadd : (⟨wr.heap.size, 0, none⟩ : Addr).add j = ⟨wr.heap.size, j, none⟩ := by unfold Addr.add; split <;> simp_all
          rw [hadd]
          match j, hj with
          | 0, hj => simp at hj; subst hj; simp
        case c2 => intro x hx; simp at hx; rcases hx with rfl; rfl
        case c3 => unfold maxLen; omega
        case c4 => omega
        case c5 => have := hb.size; simp; omega
        intro v2 w4 hown4 hg4 _
        have hb4 : Below w.heap.size w w4 := (bl_alloc hb _).trans (grown_below (hown.alloc _) hg4 (by have := hb.size; simp; omega))
        have HO4 : Hid (w4.ownsRow w.heap.size 3 1 v2 (k + 1) (ints (p.reverse.take (k + 1)))) := by
          show World.ownsRow _ _ _ _ _ _ _
          rw [HT.out, ints_snoc]; exact hown4
        clear hown4 hg4 hown
        go_wp2_with (fail)
        go_roundw
        case rel => exact ⟨k + 1, by omega, by rw [HN.out], HO4.out, hb4⟩
        case measure => simp [intOf]
      · obtain rfl : k = p.length := by omega
        have hm : (p.length : Int) - 1 - (p.length : Int) = -1 := by omega
        rw [hm]
        rw [List.take_of_length_le (by simp)] at hown
        obtain ⟨A', c, rfl⟩ := own_form hown
        go_wp2_with (fail)
        go_ret2
        exact HO.out _ _ ⟨A', c, rfl, hown, hb⟩
  · have hv' : (validE p != 0) = true := by simpa using hv
    have hL : backL p = [] := by rw [backL, if_neg hv]
    clear hv
    go_enter Try.func42, Try.ntmps42
    go_wp2_with (fail)
    refine HV.out.mono ?_
    rintro e w' ⟨rfl, rfl⟩
    go_wp2_with (fail)
    go_ret2
    exact ⟨none, 0, by rw [hL]; rfl, by rw [hL]; exact World.ownsRow_nil _ _ _ _, Below.refl _ _⟩
end Go.Proofs.Ytpjdojjdhbmbjaa
