/- The numbers of the gates of the first layer. -/
import Derived.Test.YteoajadcdjaalaaLev
namespace Go.Proofs.Yteoajadcdjaalaa
open Go.RowKit

theorem ints_snoc (xs : List Int) (x : Int) : ints (xs ++ [x]) = ints xs ++ [.int .i64 x] := by simp [ints]
theorem own_base' {w : World} {base base' size n : Nat} {e : TypeId} {v : Value} {xs : List Value} (h : w.ownsRow base e size v n xs) (hb : base' ≤ base) : w.ownsRow base' e size v n xs := by
  refine ⟨h.1, ?_⟩
  rcases h.2 with hv | ⟨g, cap, cur, hv, hg, rest⟩
  · exact .inl hv
  · exact .inr ⟨g, cap, cur, hv, Nat.le_trans hb hg, rest⟩
def firstsTo (l : List G) : Nat → List Int
  | 0 => []
  | k + 1 => if (lvL l l.length).getD k 0 = 0 then firstsTo l k ++ [(k : Int)] else firstsTo l k
theorem firstsTo_len (l : List G) : ∀ k, (firstsTo l k).length ≤ k
  | 0 => by simp [firstsTo]
  | k + 1 => by
    have := firstsTo_len l k
    rw [firstsTo]; split
    · simp; omega
    · omega
def firstsG (n : Int) (l : List G) : List Int := if validE n l = 0 then firstsTo l l.length else []

set_option maxRecDepth 100000 in
set_option maxHeartbeats 1000000 in
theorem Firsts_c (n : Int) (A : Option Addr) (l : List G) (c : Nat) (w : World) (hlen : l.length ≤ 1000) (hr : Rd w A (cellsG l)) :
    Calls Try.prog 36 #[.int .i64 n, .slice A l.length c] w fun e w' => ∃ A' c', e = .returned (.tuple #[.slice A' (firstsG n l).length c', .int .i64 (validE n l)]) ∧ w'.ownsRow w.heap.size 3 1 (.slice A' (firstsG n l).length c') (firstsG n l).length (ints (firstsG n l)) ∧ Below w.heap.size w w' := by
  obtain ⟨i0, hi, hz0, hz1, hz2⟩ := info_parts int_info
  have HV := Lib.hid (validate_c n A l c w hlen hr)
  by_cases hv : validE n l = 0
  · obtain ⟨h10, _, _⟩ := gatesE_ang hv
    have HS := fun (w1 : World) (h : Rd w1 A (cellsG l)) => Lib.hid (levels_c A l c w1 (by omega) h)
    have HB : firstsG n l = firstsTo l l.length := by rw [firstsG, if_pos hv]
    rw [hv] at HV
    rw [hv, HB]
    clear HB
    have hll := lvL_len l l.length
    have HF := firstsTo_len l
    go_enter Try.func36, Try.ntmps36
    go_wp2_with (go_at_call 24; refine HV.out.mono ?_; rintro e w1 ⟨rfl, hb1⟩)
    refine (HS _ (hr.later hb1)).out.mono ?_
    rintro e w2 ⟨rfl, hrow, hb2⟩
    have hb12 := bl_call hb1 hb2
    have hg1 : w.heap.size ≤ w1.heap.size := hb1.size
    go_wp2_with (fail)
    go_loopg [7, 19] l.length (fun gk v iv wr => ∃ k : Nat, k + gk = l.length ∧ iv = .int .i64 (k : Int) ∧ wr.ownsRow w2.heap.size 3 1 v (firstsTo l k).length (ints (firstsTo l k)) ∧ Below w2.heap.size w2 wr)
    case atStart => exact ⟨0, by omega, rfl, World.ownsRow_nil _ _ _ _, Below.refl _ _⟩
    case round =>
      obtain ⟨k, hk, rfl, hown, hb⟩ := hrel
      have hrw : Row wr w1.heap.size (lvL l l.length) := Bx.call hrow hb
      rcases gk with _ | gi
      · obtain rfl : k = l.length := by omega
        obtain ⟨A', c', rfl⟩ := own_form hown
        go_wp2_with (fail)
        go_ret2
        exact ⟨A', c', rfl, own_base' hown hb12.size, bl_call hb12 hb⟩
      · have hkl : (k : Int) < (l.length : Int) := by omega
        have q1 := hrw.get (k := k) (by omega)
        have HX : Hid (firstsTo l (k + 1) = if (lvL l l.length).getD k 0 = 0 then firstsTo l k ++ [(k : Int)] else firstsTo l k) := rfl
        have hfl := HF k
        generalize firstsTo l k = L at hown HX hfl
        generalize (lvL l l.length).getD k 0 = lv at q1 HX
        by_cases h0 : lv = 0
        · subst h0
          have HX' : Hid (firstsTo l (k + 1) = L ++ [(k : Int)]) := by show _ = _; rw [HX.out, if_pos rfl]
          obtain ⟨B, d, rfl⟩ := own_form hown
          go_wp2_with (at_builtin; refine wpList_append_own _ rfl _ _ 46 rfl w2.heap.size 3 i0 _ 1 8 Try.underlying46 hi hz0 hz1 hz2 rfl (by decide) _ _ _ rfl (hown.alloc _) ⟨wr.heap.size, 0, none⟩ 1 1 [.int .i64 k] rfl rfl ?c1 ?c2 ?c3 ?c4 ?c5 ?_)
          case c2 => rfl
          case c3 => unfold maxLen; omega
          case c4 => omega
          case c5 => have := hb.size; simp; omega
          intro v2 w4 hown4 hg4 _
          have hb4 : Below w2.heap.size w2 w4 := (bl_alloc hb _).trans (grown_below (hown.alloc _) hg4 (by have := hb.size; simp; omega))
          have HO : Hid (w4.ownsRow w2.heap.size 3 1 v2 (firstsTo l (k + 1)).length (ints (firstsTo l (k + 1)))) := by
            show World.ownsRow _ _ _ _ _ _ _
            rw [HX'.out, ints_snoc, List.length_append]; exact hown4
          clear hown4 hg4 hown
          go_wp2_with (fail)
          go_roundg gi
          case rel => exact ⟨k + 1, by omega, by go_num, HO.out, hb4⟩
          case measure => omega
        · have HX' : Hid (firstsTo l (k + 1) = L) := by show _ = _; rw [HX.out, if_neg h0]
          go_wp2_with (fail)
          go_roundg gi
          case rel => exact ⟨k + 1, by omega, by go_num, by rw [HX'.out]; exact hown, hb⟩
          case measure => omega
  · have HB : firstsG n l = [] := by rw [firstsG, if_neg hv]
    rw [HB]
    clear HB
    generalize validE n l = ev at hv HV
    go_enter Try.func36, Try.ntmps36
    go_wp2_with (go_at_call 24; refine HV.out.mono ?_; rintro e w1 ⟨rfl, hb1⟩)
    go_ret2
    exact ⟨none, 0, rfl, World.ownsRow_nil _ _ _ _, hb1⟩
end Go.Proofs.Yteoajadcdjaalaa
