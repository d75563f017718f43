/- Acts told apart by their type. -/
import Derived.Test.YtlhnbknilcmleaaAct
namespace Go.Proofs.Ytlhnbknilcmleaa
open Go.RowKit

def actV (a : T3) : Value := if a.1 = 1 then .iface 102 (encT a) else if a.1 = 2 then .iface 98 (.agg #[]) else .iface 104 (encT a)
theorem actOf_c (k i h : Int) (w : World) : Calls Try.prog 78 #[.agg #[.int .i64 k, .int .i64 i, .int .i64 h]] w fun e w' => e = .returned (actV (k, i, h)) ∧ Below w.heap.size w w' := by
  have hb0 := bl_alloc (Below.refl w.heap.size w) (.cells #[.int .i64 k, .int .i64 i, .int .i64 h] 61)
  by_cases k1 : k = 1
  · subst k1
    go_enter Try.func78, Try.ntmps78
    go_wp2
    go_ret
    exact ⟨rfl, hb0⟩
  · by_cases k2 : k = 2
    · subst k2
      go_enter Try.func78, Try.ntmps78
      go_wp2
      go_ret
      exact ⟨rfl, hb0⟩
    · have q1 : (k == 1) = false := by simpa using k1
      have q2 : (k == 2) = false := by simpa using k2
      have HE : Hid (actV (k, i, h) = .iface 104 (.agg #[.int .i64 k, .int .i64 i, .int .i64 h])) := by show _ = _; rw [actV, if_neg k1, if_neg k2]; rfl
      go_enter Try.func78, Try.ntmps78
      go_wp2
      go_ret
      exact ⟨by rw [HE.out]; rfl, hb0⟩
/-- What an assertion of a type answers. -/
theorem ta_gg (x : Value) (w : World) : (Instr.typeAssert (.iface 102 x) 89 102 true).run Try.prog w = .ok (.tuple #[x, .bool true]) w := by kernel_rfl
theorem ta_gc (x : Value) (w : World) : (Instr.typeAssert (.iface 102 x) 89 98 true).run Try.prog w = .ok (.tuple #[.agg #[], .bool false]) w := by kernel_rfl
theorem ta_cg (x : Value) (w : World) : (Instr.typeAssert (.iface 98 x) 89 102 true).run Try.prog w = .ok (.tuple #[.agg #[.int .i64 0, .int .i64 0, .int .i64 0], .bool false]) w := by kernel_rfl
theorem ta_cc (x : Value) (w : World) : (Instr.typeAssert (.iface 98 x) 89 98 true).run Try.prog w = .ok (.tuple #[x, .bool true]) w := by kernel_rfl
theorem ta_mg (x : Value) (w : World) : (Instr.typeAssert (.iface 104 x) 89 102 true).run Try.prog w = .ok (.tuple #[.agg #[.int .i64 0, .int .i64 0, .int .i64 0], .bool false]) w := by kernel_rfl
theorem ta_mc (x : Value) (w : World) : (Instr.typeAssert (.iface 104 x) 89 98 true).run Try.prog w = .ok (.tuple #[.agg #[], .bool false]) w := by kernel_rfl
theorem ta_mm (x : Value) (w : World) : (Instr.typeAssert (.iface 104 x) 89 104 true).run Try.prog w = .ok (.tuple #[x, .bool true]) w := by kernel_rfl
set_option maxRecDepth 100000 in
theorem isGate_c (k i h : Int) (w : World) : Calls Try.prog 81 #[.agg #[.int .i64 k, .int .i64 i, .int .i64 h]] w fun e w' => e = .returned (.bool (k == 1)) ∧ Below w.heap.size w w' := by
  have HA := fun w => Lib.hid (actOf_c k i h w)
  have hb0 := bl_alloc (Below.refl w.heap.size w) (.cells #[.int .i64 k, .int .i64 i, .int .i64 h] 61)
  by_cases k1 : k = 1
  · subst k1
    have HV : actV (1, i, h) = .iface 102 (.agg #[.int .i64 1, .int .i64 i, .int .i64 h]) := rfl
    rw [HV] at HA
    clear HV
    have TA := ta_gg
    go_enter Try.func81, Try.ntmps81
    go_wp2_with (go_at_call 78; refine (HA _).out.mono ?_; rintro e w1 ⟨rfl, hb1⟩)
    go_ret
    exact ⟨rfl, bl_alloc (bl_call hb0 hb1) _⟩
  · have q1 : (k == 1) = false := by simpa using k1
    by_cases k2 : k = 2
    · subst k2
      have HV : actV (2, i, h) = .iface 98 (.agg #[]) := rfl
      rw [HV] at HA
      clear HV
      have TA := ta_cg
      go_enter Try.func81, Try.ntmps81
      go_wp2_with (go_at_call 78; refine (HA _).out.mono ?_; rintro e w1 ⟨rfl, hb1⟩)
      go_ret
      exact ⟨rfl, bl_alloc (bl_call hb0 hb1) _⟩
    · have HV : actV (k, i, h) = .iface 104 (.agg #[.int .i64 k, .int .i64 i, .int .i64 h]) := by rw [actV, if_neg k1, if_neg k2]; rfl
      rw [HV] at HA
      clear HV
      have TA := ta_mg
      go_enter Try.func81, Try.ntmps81
      go_wp2_with (go_at_call 78; refine (HA _).out.mono ?_; rintro e w1 ⟨rfl, hb1⟩)
      go_ret
      exact ⟨ret_b q1, bl_alloc (bl_call hb0 hb1) _⟩
set_option maxRecDepth 100000 in
theorem isCooling_c (k i h : Int) (w : World) : Calls Try.prog 76 #[.agg #[.int .i64 k, .int .i64 i, .int .i64 h]] w fun e w' => e = .returned (.bool (k == 2)) ∧ Below w.heap.size w w' := by
  have HA := fun w => Lib.hid (actOf_c k i h w)
  have hb0 := bl_alloc (Below.refl w.heap.size w) (.cells #[.int .i64 k, .int .i64 i, .int .i64 h] 61)
  by_cases k1 : k = 1
  · subst k1
    have HV : actV (1, i, h) = .iface 102 (.agg #[.int .i64 1, .int .i64 i, .int .i64 h]) := rfl
    rw [HV] at HA
    clear HV
    have TA := ta_gc
    go_enter Try.func76, Try.ntmps76
    go_wp2_with (go_at_call 78; refine (HA _).out.mono ?_; rintro e w1 ⟨rfl, hb1⟩)
    go_ret
    exact ⟨rfl, bl_alloc (bl_call hb0 hb1) _⟩
  · by_cases k2 : k = 2
    · subst k2
      have HV : actV (2, i, h) = .iface 98 (.agg #[]) := rfl
      rw [HV] at HA
      clear HV
      have TA := ta_cc
      go_enter Try.func76, Try.ntmps76
      go_wp2_with (go_at_call 78; refine (HA _).out.mono ?_; rintro e w1 ⟨rfl, hb1⟩)
      go_ret
      exact ⟨rfl, bl_alloc (bl_call hb0 hb1) _⟩
    · have q2 : (k == 2) = false := by simpa using k2
      have HV : actV (k, i, h) = .iface 104 (.agg #[.int .i64 k, .int .i64 i, .int .i64 h]) := by rw [actV, if_neg k1, if_neg k2]; rfl
      rw [HV] at HA
      clear HV
      have TA := ta_mc
      go_enter Try.func76, Try.ntmps76
      go_wp2_with (go_at_call 78; refine (HA _).out.mono ?_; rintro e w1 ⟨rfl, hb1⟩)
      go_ret
      exact ⟨ret_b q2, bl_alloc (bl_call hb0 hb1) _⟩
/-- Stretches in memory: where from, and the heat; two cells each. -/
def addCs (cs : Array Value) (off : Nat) (h0 num h : Int) : Array Value := (if h0 = 0 then cs.setIfInBounds off (.int .i64 num) else cs).setIfInBounds (off + 1) (.int .i64 (h0 + h))
set_option maxRecDepth 100000 in
theorem add_c (g off : Nat) (T : TypeId) (cs : Array Value) (f h0 : Int) (num k i h : Int) (w : World) (hx : Bx w g T cs) (hc0 : cs[off]? = some (.int .i64 f)) (hc1 : cs[off + 1]? = some (.int .i64 h0)) (hr : 0 ≤ h0 ∧ h0 ≤ 1000000) (hh : 0 ≤ h ∧ h ≤ 1000000) :
    Calls Try.prog 82 #[.pointer (some ⟨g, off, none⟩), .int .i64 num, .agg #[.int .i64 k, .int .i64 i, .int .i64 h]] w fun e w' => (∃ v, e = .returned v) ∧ Bx w' g T (addCs cs off h0 num h) ∧ Mod (fun b => b = g) w w' := by
  obtain ⟨r0, r1⟩ := hr
  obtain ⟨s0, s1⟩ := hh
  have hg := hx.lt
  have hne : g ≠ w.heap.size := by omega
  have hx0 := (hx.cell off).trans hc0
  have hx1 := (hx.cell (off + 1)).trans hc1
  have hf0 := hx.free off
  have hf1 := hx.free (off + 1)
  by_cases hz : h0 = 0
  · subst hz
    obtain ⟨W1, hW1⟩ : ∃ W1, W1 = (w.setCell ⟨g, off, none⟩ (.int .i64 num)).alloc (.cells #[.int .i64 k, .int .i64 i, .int .i64 h] 61) := ⟨_, rfl⟩
    have hb1 : Bx W1 g T (cs.setIfInBounds off (.int .i64 num)) := by rw [hW1]; exact (hx.set off _).alloc _
    have hbx : Bx W1 w.heap.size 61 #[.int .i64 k, .int .i64 i, .int .i64 h] := by rw [hW1]; exact Bx.newAt (by simp)
    have hm1 : Mod (fun b => b = g) w W1 := by rw [hW1]; exact ((Mod.refl (fun b => b = g) w).setCell (.inr rfl) _).alloc _
    have y1 : W1.drew.cell? ⟨g, off + 1, none⟩ = some (.int .i64 0) := (hb1.drew.cell (off + 1)).trans (by rw [Array.getElem?_setIfInBounds_ne (by omega)]; exact hc1)
    obtain ⟨z0, z1, z2, _, _, _⟩ := hbx.drew.three
    have yf := hb1.drew.free (off + 1)
    have HF : Hid (Bx ((W1.setCell ⟨g, off + 1, none⟩ (.int .i64 (0 + h))).drew) g T (addCs cs off 0 num h) ∧ Mod (fun b => b = g) w ((W1.setCell ⟨g, off + 1, none⟩ (.int .i64 (0 + h))).drew)) := by
      refine ⟨?_, (hm1.setCell (.inr rfl) _).drew⟩
      rw [addCs, if_pos rfl]
      exact (hb1.set (off + 1) _).drew
    rw [Int.zero_add] at HF
    go_enter Try.func82, Try.ntmps82
    go_wp2
    rw [← hW1]
    clear hx hb1 hbx hm1 hW1 hx0 hx1 hf0 hf1 hc0 hc1
    go_region
    all_goals
      go_wp2_with (fail)
      exact bodyPost_end (results_none rfl _ _ _) rfl ⟨⟨_, rfl⟩, HF.out⟩
  · have hz' : (h0 == 0) = false := by simpa using hz
    obtain ⟨W1, hW1⟩ : ∃ W1, W1 = w.alloc (.cells #[.int .i64 k, .int .i64 i, .int .i64 h] 61) := ⟨_, rfl⟩
    have hb1 : Bx W1 g T cs := by rw [hW1]; exact hx.alloc _
    have hbx : Bx W1 w.heap.size 61 #[.int .i64 k, .int .i64 i, .int .i64 h] := by rw [hW1]; exact Bx.newAt (by simp)
    have hm1 : Mod (fun b => b = g) w W1 := by rw [hW1]; exact (Mod.refl (fun b => b = g) w).alloc _
    have y1 : W1.drew.cell? ⟨g, off + 1, none⟩ = some (.int .i64 h0) := (hb1.drew.cell (off + 1)).trans hc1
    obtain ⟨z0, z1, z2, _, _, _⟩ := hbx.drew.three
    have yf := hb1.drew.free (off + 1)
    have HF : Hid (Bx ((W1.setCell ⟨g, off + 1, none⟩ (.int .i64 (h0 + h))).drew) g T (addCs cs off h0 num h) ∧ Mod (fun b => b = g) w ((W1.setCell ⟨g, off + 1, none⟩ (.int .i64 (h0 + h))).drew)) := by
      refine ⟨?_, (hm1.setCell (.inr rfl) _).drew⟩
      rw [addCs, if_neg hz]
      exact (hb1.set (off + 1) _).drew
    go_enter Try.func82, Try.ntmps82
    go_wp2
    rw [← hW1]
    clear hx hb1 hbx hm1 hW1 hx0 hx1 hf0 hf1 hc0 hc1
    go_region
    all_goals
      go_wp2_with (fail)
      exact bodyPost_end (results_none rfl _ _ _) rfl ⟨⟨_, rfl⟩, HF.out⟩
end Go.Proofs.Ytlhnbknilcmleaa
