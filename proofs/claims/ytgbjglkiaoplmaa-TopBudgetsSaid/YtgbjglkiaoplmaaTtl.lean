/- Total and Chance: package budget's. -/
import Derived.Test.YtgbjglkiaoplmaaClo
namespace Go.Proofs.Ytgbjglkiaoplmaa
open Go.RowKit

theorem results_cell_tmp {P : Program} {fn : Func} {p q : Tmp} {ty : TypeId} (h : fn.results = #[.cell p ty, .tmp q]) (tmps : Array Value) (w : World) (g : Nat) (t : TypeId) (cs : Array Value) (fr : Nat × Nat) (d : TypeDesc) (x : Value)
    (hp : tmps.getD p undef = .pointer (some ⟨g, 0, none⟩)) (hq : tmps.getD q undef = x) (hg : w.heap[g]? = some (.cells cs t fr))
    (hu : P.underlying ty = some d) (hd : (match d with | .struct _ | .array _ _ => true | _ => false) = true) (hi : (P.info? ty).map (·.size) = some cs.size) :
    (results fn tmps).run P w = .ok (.tuple #[.agg cs, x]) w := by
  have hp' : tmps[p]?.getD undef = .pointer (some ⟨g, 0, none⟩) := by simpa using hp
  have hq' : tmps[q]?.getD undef = x := by simpa using hq
  simp [results, h, hp', hq', asAddr, run_loadVar_row w g t ty cs fr d hg hu hd hi]
/-- What Total answers. -/
def totG (l : List It) : Int × Int := if valE l = 0 then rat (partsL l) else (0, 0)
set_option maxHeartbeats 2000000 in
theorem Total_c (A : Option Addr) (l : List It) (cap : Nat) (w : World) (hlen : l.length ≤ 1000) (hr : Rd w A (cellsI l)) :
    Calls Try.prog 22 #[.slice A l.length cap] w fun e w' => e = .returned (.tuple #[.agg #[.int .i64 (totG l).1, .int .i64 (totG l).2], .int .i64 (valE l)]) ∧ Below w.heap.size w w' := by
  have hb0 : Below w.heap.size w (w.alloc (.cells #[.int .i64 0, .int .i64 0] 30)) := bl_alloc (Below.refl _ _) _
  have HV := Lib.hid (Validate_c A l cap _ hlen (hr.later hb0))
  have x1 : Bx (w.alloc (.cells #[.int .i64 0, .int .i64 0] 30)) w.heap.size 30 #[.int .i64 0, .int .i64 0] := Bx.newAt rfl
  by_cases hv : valE l = 0
  · have hG : totG l = rat (partsL l) := by unfold totG; rw [if_pos hv]
    have HT := fun w (hr : Rd w A (cellsI l)) => Lib.hid (totalOf_c A l cap 8 w (val_ok hv) (valE_ok hv).1 (by decide) hr)
    rw [hv] at HV ⊢
    rw [hG]
    clear hv hG
    generalize rat (partsL l) = p at *
    go_enter Try.func22, Try.ntmps22
    go_wp2_with (fail)
    refine HV.out.mono ?_
    rintro e w1 ⟨rfl, hb1⟩
    have hx1 := x1.call hb1
    have hb01 := bl_call hb0 hb1
    clear HV x1 hb0 hb1
    go_wp2_with (fail)
    refine (HT _ (hr.later hb01)).out.mono ?_
    rintro e w2 ⟨rfl, hb2⟩
    have hx2 := hx1.call hb2
    have hb02 := bl_call hb01 hb2
    obtain ⟨z0, z1, z2, z3⟩ := hx2.two
    clear HT hx1 hb01 hb2
    go_wp2_with (fail)
    refine bodyPost_ret (results_cell_tmp rfl _ _ w.heap.size 30 _ (0, 0) _ _ rfl rfl (hx2.set2 _ _) Try.underlying30 rfl (by kernel_rfl)) rfl ?_
    exact ⟨rfl, bl_set (bl_set hb02 (Nat.le_refl _) _) (Nat.le_refl _) _⟩
  · have hG : totG l = (0, 0) := by unfold totG; rw [if_neg hv]
    have hv' : (valE l == 0) = false := by rw [beq_eq_false_iff_ne]; exact hv
    rw [hG]
    generalize valE l = z at *
    go_enter Try.func22, Try.ntmps22
    go_wp2_with (fail)
    refine HV.out.mono ?_
    rintro e w1 ⟨rfl, hb1⟩
    have hx1 := x1.call hb1
    have hb01 := bl_call hb0 hb1
    obtain ⟨z0, z1, z2, z3⟩ := hx1.two
    go_wp2_with (fail)
    refine bodyPost_ret (results_cell_tmp rfl _ _ w.heap.size 30 _ (0, 0) _ _ rfl rfl (hx1.set2 _ _) Try.underlying30 rfl (by kernel_rfl)) rfl ?_
    exact ⟨rfl, bl_set (bl_set hb01 (Nat.le_refl _) _) (Nat.le_refl _) _⟩
end Go.Proofs.Ytgbjglkiaoplmaa
