/- Layers and Depth. -/
import Derived.Test.YteoajadcdjaalaaLayC
namespace Go.Proofs.Yteoajadcdjaalaa
open Go.RowKit

def lysL (n : Int) (l : List G) : List (List G) := if validE n l = 0 then layL l else []
set_option maxRecDepth 100000 in
theorem Layers_c (n : Int) (A : Option Addr) (l : List G) (c : Nat) (w : World) (hlen : l.length ≤ 1000) (hr : Rd w A (cellsG l)) :
    Calls Try.prog 32 #[.int .i64 n, .slice A l.length c] w fun e w' => ∃ A' c' hs, e = .returned (.tuple #[.slice A' (lysL n l).length c', .int .i64 (validE n l)]) ∧ w'.ownsRow w.heap.size 29 1 (.slice A' (lysL n l).length c') (lysL n l).length hs ∧ TabG w' w.heap.size hs (lysL n l) ∧ Below w.heap.size w w' := by
  have HV := Lib.hid (validate_c n A l c w hlen hr)
  by_cases hv : validE n l = 0
  · obtain ⟨h10, _, _⟩ := gatesE_ang hv
    have HS := fun (w1 : World) (h : Rd w1 A (cellsG l)) => Lib.hid (layersOf_c A l c w1 h10 h)
    have HB : lysL n l = layL l := by rw [lysL, if_pos hv]
    rw [hv] at HV
    rw [hv, HB]
    clear HB
    generalize layL l = T at *
    go_enter Try.func32, Try.ntmps32
    go_wp2_with (go_at_call 24; refine HV.out.mono ?_; rintro e w1 ⟨rfl, hb1⟩)
    refine (HS _ (hr.later hb1)).out.mono ?_
    rintro e w2 ⟨A', c', hs, rfl, ho, ht, hb2⟩
    go_wp2_with (fail)
    go_ret2
    exact ⟨A', c', hs, rfl, own_base ho hb1.size, ht.lower hb1.size, bl_call hb1 hb2⟩
  · have HB : lysL n l = [] := by rw [lysL, if_neg hv]
    rw [HB]
    clear HB
    generalize validE n l = ev at hv HV
    go_enter Try.func32, Try.ntmps32
    go_wp2_with (go_at_call 24; refine HV.out.mono ?_; rintro e w1 ⟨rfl, hb1⟩)
    go_ret2
    exact ⟨none, 0, [], rfl, World.ownsRow_nil _ _ _ _, TabG.nil _ _, hb1⟩
set_option maxRecDepth 100000 in
theorem Depth_c (n : Int) (A : Option Addr) (l : List G) (c : Nat) (w : World) (hlen : l.length ≤ 1000) (hr : Rd w A (cellsG l)) :
    Calls Try.prog 35 #[.int .i64 n, .slice A l.length c] w fun e w' => e = .returned (.tuple #[.int .i64 (lysL n l).length, .int .i64 (validE n l)]) ∧ Below w.heap.size w w' := by
  have HV := Lib.hid (validate_c n A l c w hlen hr)
  by_cases hv : validE n l = 0
  · obtain ⟨h10, _, _⟩ := gatesE_ang hv
    have HS := fun (w1 : World) (h : Rd w1 A (cellsG l)) => Lib.hid (layersOf_c A l c w1 h10 h)
    have HB : lysL n l = layL l := by rw [lysL, if_pos hv]
    rw [hv] at HV
    rw [hv, HB]
    clear HB
    generalize layL l = T at *
    go_enter Try.func35, Try.ntmps35
    go_wp2_with (go_at_call 24; refine HV.out.mono ?_; rintro e w1 ⟨rfl, hb1⟩)
    refine (HS _ (hr.later hb1)).out.mono ?_
    rintro e w2 ⟨A', c', hs, rfl, ho, ht, hb2⟩
    go_wp2_with (fail)
    go_ret2
    exact ⟨rfl, bl_call hb1 hb2⟩
  · have HB : lysL n l = [] := by rw [lysL, if_neg hv]
    rw [HB]
    clear HB
    generalize validE n l = ev at hv HV
    go_enter Try.func35, Try.ntmps35
    go_wp2_with (go_at_call 24; refine HV.out.mono ?_; rintro e w1 ⟨rfl, hb1⟩)
    go_ret2
    exact ⟨rfl, hb1⟩
end Go.Proofs.Yteoajadcdjaalaa
