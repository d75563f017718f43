/- The document's Inverse. -/
import Derived.Test.YteoajadcdjaalaaInv
import Derived.Test.YteoajadcdjaalaaRpair
namespace Go.Proofs.Yteoajadcdjaalaa
open Go.RowKit

/-- The first j gates of the inverse. -/
def backTo (l : List G) (j : Nat) : List G := (l.reverse.take j).map backG
theorem backTo_len {l : List G} {j : Nat} (h : j ≤ l.length) : (backTo l j).length = j := by simp [backTo]; omega
theorem backTo_all (l : List G) : backTo l l.length = invL l := by rw [backTo, invL, List.take_of_length_le (by simp)]
theorem backTo_succ {l : List G} {i j : Nat} (h : i + 1 + j = l.length) : backTo l (j + 1) = backTo l j ++ [backG (l.getD i g0)] := by
  have hk : j < l.reverse.length := by simp; omega
  have hx : l.reverse[j] = l.getD i g0 := by
    rw [List.getElem_reverse]
    have : l.length - 1 - j = i := by omega
    simp [this, show i < l.length by omega]
  rw [backTo, backTo, List.take_succ_eq_append_getElem hk, List.map_append, hx]; rfl

set_option maxRecDepth 100000 in
set_option maxHeartbeats 2000000 in
theorem rInverse_c (n : Int) (A : Option Addr) (l : List G) (c : Nat) (w : World) (hlen : l.length ≤ 1000) (hr : Rd w A (cellsG l)) :
    Calls Try.prog 47 #[.int .i64 n, .slice A l.length c] w (OutG (invE n l) (validE n l) w) := by
  obtain ⟨i0, hi, hz0, hz1, hz2⟩ := info_parts gate_info
  have HV := Lib.hid (rvalidate_c n A l c w hlen hr)
  by_cases hv : validE n l = 0
  · obtain ⟨h10, hang, _⟩ := gatesE_ang hv
    have HB : invE n l = invL l := by rw [invE, if_pos hv]
    have HLI : Hid ((invL l).length = l.length) := invL_len l
    have HT1 := Lib.hid (backTo_all l)
    have HTs := fun i j h => Lib.hid (@backTo_succ l i j h)
    have HTl := fun j h => Lib.hid (@backTo_len l j h)
    have HAn : Hid (∀ k, k < l.length → Ang (l.getD k g0)) := fun k hk => hang _ (by simp [hk])
    rw [hv] at HV
    rw [hv, HB]
    clear HB
    go_enter Try.func47, Try.ntmps47
    go_wp2_with (fail)
    refine HV.out.mono ?_
    rintro e w1 ⟨rfl, hb1⟩
    go_wp2_with (fail)
    go_loopg [7, 8] l.length (fun gk sv iv wr => Hid (gk ≤ l.length) ∧ iv = .int .i64 ((gk : Int) - 1) ∧ wr.ownsRow w1.heap.size 23 4 sv (l.length - gk) (cellsG (backTo l (l.length - gk))) ∧ RowKit.Below w1.heap.size w1 wr)
    case atStart => exact ⟨Nat.le_refl _, by rfl, by rw [Nat.sub_self]; exact World.ownsRow_nil _ _ _ _, Below.refl _ _⟩
    case round =>
      obtain ⟨HG, rfl, ho, hb⟩ := hrel
      obtain ⟨B, d, rfl⟩ := own_form ho
      rcases gk with _ | gi
      · rw [Nat.sub_zero, HT1.out] at ho
        have hneg : ¬ (0 : Int) ≤ -1 := by decide
        have hneg2 : ¬ (0 : Int) ≤ ((0 : Nat) : Int) - 1 := by decide
        go_wp2_with (fail)
        go_ret2
        exact ⟨B, d, by rw [HLI.out]; rfl, by rw [HLI.out]; exact own_base ho hb1.size, bl_call hb1 hb⟩
      · have hg := HG.out
        have hil : gi < l.length := by omega
        have hil' : (gi : Int) < (l.length : Int) := by omega
        have e1 : ((gi + 1 : Nat) : Int) - 1 = (gi : Int) := by omega
        rw [e1]
        have hs := Lib.hid ((HTs gi (l.length - (gi + 1)) (by omega)).out)
        have hA := HAn.out gi hil
        unfold Ang at hA
        obtain ⟨b, o, rfl, hG⟩ := gate_at (hr.later (bl_call hb1 hb)) hil
        obtain ⟨c0, c1, c2, c3⟩ := hG.out _ (Below.refl _ _)
        generalize l.getD gi g0 = x at *
        obtain ⟨xk, xa, xb, xt⟩ := x
        simp only [] at c0 c1 c2 c3 hA
        have hal : RowKit.Below wr.heap.size wr ((wr.alloc (.cells #[.int .i64 xk, .int .i64 xa, .int .i64 xb, .int .i64 (16 - xt)] 23)).alloc (.cells #[.int .i64 xk, .int .i64 xa, .int .i64 xb, .int .i64 (16 - xt)] 23)) := bl_alloc (bl_alloc (RowKit.Below.refl _ _) _) _
        have hb2 := bl_call hb hal
        have ho2 := own_call ho hal
        go_wp2_with (at_builtin; refine wpList_append_any rfl _ _ 29 rfl w1.heap.size 23 i0 _ 32 Try.underlying29 hi hz0 hz1 hz2 rfl _ (l.length - (gi + 1)) (cellsG (backTo l (l.length - (gi + 1)))) rfl ho2 (some ⟨wr.heap.size + 1, 0, none⟩) [(xk, xa, xb, 16 - xt)] 1 rfl (Bx.rd (cs := [.int .i64 xk, .int .i64 xa, .int .i64 xb, .int .i64 (16 - xt)]) (Bx.newAt (by simp))) (by unfold maxLen; simp; omega) (by simp; omega) hb2.size ?_)
        intro A5 c5 w5 ho5 hg5
        have hb5 := hb2.trans (grown_below ho2 hg5 hb2.size)
        have HO : Hid (w5.ownsRow w1.heap.size 23 4 (.slice A5 (l.length - (gi + 1) + [(xk, xa, xb, 16 - xt)].length) c5) (l.length - gi) (cellsG (backTo l (l.length - gi)))) := by
          show World.ownsRow _ _ _ _ _ _ _
          have e : l.length - gi = l.length - (gi + 1) + 1 := by omega
          rw [e, hs.out, cellsG_append]; exact ho5
        clear ho5 hg5 ho2 ho c0 c1 c2 c3 hG
        go_wp2_with (fail)
        go_roundg gi
        case rel => exact ⟨by show _ ≤ _; omega, by go_num, HO.out, hb5⟩
        case measure => omega
  · have HB : invE n l = [] := by rw [invE, if_neg hv]
    rw [HB]
    clear HB
    generalize validE n l = ev at hv HV
    go_enter Try.func47, Try.ntmps47
    go_wp2_with (go_at_call 25; refine HV.out.mono ?_; rintro e w1 ⟨rfl, hb1⟩)
    go_ret2
    exact ⟨none, 0, rfl, World.ownsRow_nil _ _ _ _, hb1⟩
end Go.Proofs.Yteoajadcdjaalaa
