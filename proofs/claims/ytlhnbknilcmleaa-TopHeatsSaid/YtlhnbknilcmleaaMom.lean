/- The moments of a plan: its acts with the heats behind them. -/
import Derived.Test.YtlhnbknilcmleaaOf
import Derived.Test.YtlhnbknilcmleaaLowT
import Derived.Test.YtlhnbknilcmleaaHeatW
namespace Go.Proofs.Ytlhnbknilcmleaa
open Go.RowKit

/-- A moment: the act j, and the heats behind it. -/
def momAt (l : List T3) (j : Nat) : List Value := [.int .i64 (l.getD j t0).1, .int .i64 (l.getD j t0).2.1, .int .i64 (l.getD j t0).2.2,
  .int .i64 (heatO (l.take (j + 1)) 0), .int .i64 (heatO (l.take (j + 1)) 1), .int .i64 (heatO (l.take (j + 1)) 2), .int .i64 (heatO (l.take (j + 1)) 3)]
/-- Block g holds the first k moments. -/
def MomK (w : World) (g : Nat) (l : List T3) (k : Nat) : Prop := ∃ cs : Array Value, Bx w g 72 cs ∧ cs.size = l.length * 7 ∧ ∀ j, j < k → ∀ r v, (momAt l j)[r]? = some v → cs[j * 7 + r]? = some v
theorem MomK.call {w w' : World} {g : Nat} {l : List T3} {k : Nat} (h : MomK w g l k) (hb : Below w.heap.size w w') : MomK w' g l k := by
  obtain ⟨cs, h1, h2, h3⟩ := h
  exact ⟨cs, h1.call hb, h2, h3⟩
theorem MomK.mod {S : Nat → Prop} {w w' : World} {g : Nat} {l : List T3} {k : Nat} (h : MomK w g l k) (hm : Mod S w w') (hn : ¬ S g) : MomK w' g l k := by
  obtain ⟨cs, h1, h2, h3⟩ := h
  exact ⟨cs, h1.mod hm hn, h2, h3⟩
theorem MomK.lt {w : World} {g : Nat} {l : List T3} {k : Nat} (h : MomK w g l k) : g < w.heap.size := by
  obtain ⟨cs, h1, _, _⟩ := h; exact h1.lt
/-- The heats of four ions in memory. -/
def heatCs (S : Int → Int) : Array Value := #[.int .i64 (S 0), .int .i64 (S 1), .int .i64 (S 2), .int .i64 (S 3)]
theorem heatCs_get (S : Int → Int) {ion : Int} (h0 : 0 ≤ ion) (h3 : ion ≤ 3) : (heatCs S)[ion.toNat]? = some (.int .i64 (S ion)) := by
  rcases (show ion = 0 ∨ ion = 1 ∨ ion = 2 ∨ ion = 3 by omega) with rfl | rfl | rfl | rfl <;> rfl
theorem heatCs_put {S S' : Int → Int} {ion : Int} (h0 : 0 ≤ ion) (h3 : ion ≤ 3) (x : Int) (h : ∀ i, S' i = if i = ion then x else S i) : (heatCs S).setIfInBounds ion.toNat (.int .i64 x) = heatCs S' := by
  have e0 := h 0
  have e1 := h 1
  have e2 := h 2
  have e3 := h 3
  rcases (show ion = 0 ∨ ion = 1 ∨ ion = 2 ∨ ion = 3 by omega) with rfl | rfl | rfl | rfl <;> simp at e0 e1 e2 e3 <;> simp [heatCs, e0, e1, e2, e3]
theorem moment_info : (Try.prog.info? 72).map (fun i => (i.zero, i.size, i.bytes)) = some (some (.agg #[.int .i64 0, .int .i64 0, .int .i64 0, .int .i64 0, .int .i64 0, .int .i64 0, .int .i64 0]), 7, 56) := by kernel_rfl
theorem made_moments (l : List T3) (hl : l.length ≤ 1000) (w : World) : ∃ w', (Instr.makeSlice 68 (.int .i64 l.length) (.int .i64 l.length)).run Try.prog w = .ok (.slice (some ⟨w.heap.size, 0, none⟩) l.length l.length) w' ∧ MomK w' w.heap.size l 0 ∧ Below w.heap.size w w' := by
  obtain ⟨i0, hi, hz0, hz1, hz2⟩ := info_parts moment_info
  obtain ⟨w', h1, h2, h3⟩ := run_make_full (P := Try.prog) w w.heap.size 68 72 i0 _ 7 Try.underlying68 hi hz0 hz1 .i64 .i64 l.length (by rw [hz2]; omega) (by unfold maxLen; omega) (Nat.le_refl _)
  refine ⟨w', h1, ?_, (Below.refl _ w).grown h3 (Nat.le_refl _) (fun k e => by cases e)⟩
  rcases h2.2 with ⟨h0, _⟩ | ⟨g, cap, cur, hv, hb, hg, hn, _, hs, _⟩
  · cases h0
  · injection hv with e1 _ e2
    injection e1 with e1
    injection e1 with e1
    subst e1 e2
    exact ⟨cur, hg, hs, fun j hj => by omega⟩
/-- The next moment is stored. -/
def store7 (w : World) (g p : Nat) (v0 v1 v2 v3 v4 v5 v6 : Value) : World :=
  ((((((w.setCell ⟨g, p, none⟩ v0).setCell ⟨g, p + 1, none⟩ v1).setCell ⟨g, p + 2, none⟩ v2).setCell ⟨g, p + 3, none⟩ v3).setCell ⟨g, p + 4, none⟩ v4).setCell ⟨g, p + 5, none⟩ v5).setCell ⟨g, p + 6, none⟩ v6
theorem MomK.cells {w : World} {g : Nat} {l : List T3} {k : Nat} (h : MomK w g l k) (hk : k < l.length) : ∀ r, r < 7 → (∃ v, w.cell? ⟨g, k * 7 + r, none⟩ = some v) ∧ w.frozen? ⟨g, k * 7 + r, none⟩ = false := fun r hr => by
  obtain ⟨cs, h1, h2, h3⟩ := h
  have hlt : k * 7 + r < cs.size := by omega
  exact ⟨⟨cs[k * 7 + r], (h1.cell _).trans (by simp [hlt])⟩, h1.free _⟩
theorem MomK.store {w : World} {g : Nat} {l : List T3} {k : Nat} (h : MomK w g l k) (hk : k < l.length) :
    MomK (store7 w g (k * 7) (.int .i64 (l.getD k t0).1) (.int .i64 (l.getD k t0).2.1) (.int .i64 (l.getD k t0).2.2) (.int .i64 (heatO (l.take (k + 1)) 0)) (.int .i64 (heatO (l.take (k + 1)) 1)) (.int .i64 (heatO (l.take (k + 1)) 2)) (.int .i64 (heatO (l.take (k + 1)) 3))) g l (k + 1) := by
  obtain ⟨cs, h1, h2, h3⟩ := h
  have hsz : k * 7 + 6 < cs.size := by omega
  have hm : momAt l k = [.int .i64 (l.getD k t0).1, .int .i64 (l.getD k t0).2.1, .int .i64 (l.getD k t0).2.2, .int .i64 (heatO (l.take (k + 1)) 0), .int .i64 (heatO (l.take (k + 1)) 1), .int .i64 (heatO (l.take (k + 1)) 2), .int .i64 (heatO (l.take (k + 1)) 3)] := rfl
  generalize (Value.int .i64 (l.getD k t0).1) = v0 at *
  generalize (Value.int .i64 (l.getD k t0).2.1) = v1 at *
  generalize (Value.int .i64 (l.getD k t0).2.2) = v2 at *
  generalize (Value.int .i64 (heatO (l.take (k + 1)) 0)) = v3 at *
  generalize (Value.int .i64 (heatO (l.take (k + 1)) 1)) = v4 at *
  generalize (Value.int .i64 (heatO (l.take (k + 1)) 2)) = v5 at *
  generalize (Value.int .i64 (heatO (l.take (k + 1)) 3)) = v6 at *
  refine ⟨_, ((((((h1.set (k * 7) v0).set (k * 7 + 1) v1).set (k * 7 + 2) v2).set (k * 7 + 3) v3).set (k * 7 + 4) v4).set (k * 7 + 5) v5).set (k * 7 + 6) v6, by simp [h2], fun j hj r v hv => ?_⟩
  rcases Nat.lt_or_ge j k with x | x
  · have hr : r < 7 := by
      have := (List.getElem?_eq_some_iff.1 hv).1
      simpa [momAt] using this
    have hne : j * 7 + r < k * 7 := by omega
    rw [Array.getElem?_setIfInBounds_ne (by omega), Array.getElem?_setIfInBounds_ne (by omega), Array.getElem?_setIfInBounds_ne (by omega), Array.getElem?_setIfInBounds_ne (by omega), Array.getElem?_setIfInBounds_ne (by omega), Array.getElem?_setIfInBounds_ne (by omega), Array.getElem?_setIfInBounds_ne (by omega)]
    exact h3 j x r v hv
  · obtain rfl : j = k := by omega
    rw [hm] at hv
    match r, hv with
    | 0, hv => simp at hv; subst hv; simp [Array.getElem?_setIfInBounds]; omega
    | 1, hv => simp at hv; subst hv; simp [Array.getElem?_setIfInBounds]; omega
    | 2, hv => simp at hv; subst hv; simp [Array.getElem?_setIfInBounds]; omega
    | 3, hv => simp at hv; subst hv; simp [Array.getElem?_setIfInBounds]; omega
    | 4, hv => simp at hv; subst hv; simp [Array.getElem?_setIfInBounds]; omega
    | 5, hv => simp at hv; subst hv; simp [Array.getElem?_setIfInBounds]; omega
    | 6, hv => simp at hv; subst hv; simp [Array.getElem?_setIfInBounds]; omega
    | r + 7, hv => simp at hv
/-- After an act. -/
theorem after_cool (h : Int) (w : World) : Calls Try.prog 101 #[.agg #[], .int .i64 h] w fun e w' => e = .returned (.int .i64 0) ∧ Below w.heap.size w w' := by
  go_enter Try.func101, Try.ntmps101
  go_wp2
  go_ret
  exact ⟨rfl, bl_alloc (Below.refl _ _) _⟩
theorem after_warm (k i q h : Int) (w : World) (h0 : 0 ≤ h ∧ h ≤ 1000000) (q0 : 0 ≤ q ∧ q ≤ 1000000) : Calls Try.prog 102 #[.agg #[.int .i64 k, .int .i64 i, .int .i64 q], .int .i64 h] w fun e w' => e = .returned (.int .i64 (h + q)) ∧ Below w.heap.size w w' := by
  obtain ⟨a, b⟩ := h0
  obtain ⟨c, d⟩ := q0
  go_enter Try.func102, Try.ntmps102
  go_wp2
  go_ret
  exact ⟨rfl, bl_alloc (Below.refl _ _) _⟩

theorem na_m (k i h : Int) (w : World) : (nilAhead 227 104 (.agg #[.int .i64 k, .int .i64 i, .int .i64 h]) "quadrupole/heat.after").run Try.prog w = .ok (some false) w := by kernel_rfl
theorem na_g (k i h : Int) (w : World) : (nilAhead 227 102 (.agg #[.int .i64 k, .int .i64 i, .int .i64 h]) "quadrupole/heat.after").run Try.prog w = .ok (some false) w := by kernel_rfl
theorem na_c (w : World) : (nilAhead 227 98 (.agg #[]) "quadrupole/heat.after").run Try.prog w = .ok (some false) w := by kernel_rfl
theorem me_m (k i h : Int) (w : World) : (method 227 104 (.agg #[.int .i64 k, .int .i64 i, .int .i64 h]) "quadrupole/heat.after").run Try.prog w = .ok (102, .agg #[.int .i64 k, .int .i64 i, .int .i64 h]) w := by kernel_rfl
theorem me_g (k i h : Int) (w : World) : (method 227 102 (.agg #[.int .i64 k, .int .i64 i, .int .i64 h]) "quadrupole/heat.after").run Try.prog w = .ok (102, .agg #[.int .i64 k, .int .i64 i, .int .i64 h]) w := by kernel_rfl
theorem me_c (w : World) : (method 227 98 (.agg #[]) "quadrupole/heat.after").run Try.prog w = .ok (101, .agg #[]) w := by kernel_rfl

set_option maxRecDepth 100000 in
set_option maxHeartbeats 8000000 in
theorem momentsOf_c (A : Option Addr) (l : List T3) (c : Nat) (w : World) (h40 : l.length ≤ 1000) (ha : Acts l) (hr : Rd w A (cellsT l)) :
    Calls Try.prog 54 #[.slice A l.length c] w fun e w' => ∃ g, e = .returned (.slice (some ⟨g, 0, none⟩) l.length l.length) ∧ MomK w' g l l.length ∧ Below w.heap.size w w' := by
  obtain ⟨wm, hmk, hmom, hbm⟩ := made_moments l h40 w
  have HM := Lib.hid hmk
  have hax : Bx (wm.alloc (.cells #[.int .i64 0, .int .i64 0, .int .i64 0, .int .i64 0] 70)) wm.heap.size 70 #[.int .i64 0, .int .i64 0, .int .i64 0, .int .i64 0] := Bx.new _ _ _
  go_enter Try.func54, Try.ntmps54
  go_wp2_with (fail)
  have hgm : w.heap.size < wm.heap.size := hmom.lt
  go_loopg [12] l.length (fun gk iv wr => ∃ k : Nat, Hid (k + gk = l.length) ∧ iv = .int .i64 (k : Int) ∧ MomK wr w.heap.size l k ∧ Bx wr wm.heap.size 70 (heatCs (heatO (l.take k))) ∧ Below w.heap.size w wr)
  case atStart => exact ⟨0, by simp [Hid], rfl, hmom.call (bl_alloc (Below.refl _ _) _), by simpa [heatCs, heatO] using hax, bl_alloc hbm _⟩
  case round =>
    obtain ⟨k, HK, rfl, hmo, hx, hb⟩ := hrel
    rcases gk with _ | gi
    · obtain rfl : k = l.length := HK.out
      go_wp2_with (fail)
      go_ret
      exact ⟨_, rfl, hmo, hb⟩
    · have hlt : k < l.length := by have := HK.out; omega
      have hlt' : (k : Int) < (l.length : Int) := by omega
      obtain ⟨b, o, rfl, hbl, c0, c1, c2⟩ := (hr.later hb).tri hlt
      have h4 := ha.get hlt
      have HN := fun ion => Lib.hid (heatO_succ ion hlt)
      generalize hgx : l.getD k t0 = g at c0 c1 c2 h4 HN
      obtain ⟨ak, ai, ah⟩ := g
      obtain ⟨p0, p1, p2, p3, p4, p5, p6⟩ := h4
      clear p6
      simp only [] at c0 c1 c2 p0 p1 p2 p3 p4 p5
      have HGX := Lib.hid hgx
      clear hgx
      have hrg := heatO_range (ha.take k) ai
      rw [List.length_take] at hrg
      have hh0 : 0 ≤ heatO (l.take k) ai ∧ heatO (l.take k) ai ≤ 1000000 := by omega
      clear hrg
      have HA := fun w => Lib.hid (actOf_c ak ai ah w)
      have hxa := hx.alloc (.cells #[.int .i64 ak, .int .i64 ai, .int .i64 ah] 61)
      have hbx : Bx (wr.alloc (.cells #[.int .i64 ak, .int .i64 ai, .int .i64 ah] 61)) wr.heap.size 61 #[.int .i64 ak, .int .i64 ai, .int .i64 ah] := Bx.new _ _ _
      have hba := hb.alloc hb.size (.cells #[.int .i64 ak, .int .i64 ai, .int .i64 ah] 61)
      have hma := hmo.call (bl_alloc (Below.refl wr.heap.size wr) (.cells #[.int .i64 ak, .int .i64 ai, .int .i64 ah] 61))
      obtain ⟨S, hS⟩ : ∃ S : Int → Int, S = heatO (l.take k) := ⟨_, rfl⟩
      rw [← hS] at hx hxa hh0 HN
      have HSS := Lib.hid hS
      clear hS
      have hhc := heatCs_get S p2 p3
      have p33 : ai < 4 := by omega
      rcases (by omega : ak = 0 ∨ ak = 1 ∨ ak = 2) with rfl | rfl | rfl
      · have HV : actV (0, ai, ah) = .iface 104 (.agg #[.int .i64 0, .int .i64 ai, .int .i64 ah]) := rfl
        rw [HV] at HA
        clear HV
        go_wp2_with (fail)
        obtain ⟨W0, hW0⟩ : ∃ W0, W0 = wr.alloc (.cells #[.int .i64 0, .int .i64 ai, .int .i64 ah] 61) := ⟨_, rfl⟩
        rw [← hW0] at hxa hbx hba hma ⊢
        clear hW0
        have HNA := na_m
        have HME := me_m
        have HCL : Hid (∀ w1, Below W0.heap.size W0 w1 → (w1.cell? ⟨wr.heap.size, 0, none⟩ = some (.int .i64 0) ∧ w1.cell? ⟨wr.heap.size, 1, none⟩ = some (.int .i64 ai) ∧ w1.cell? ⟨wr.heap.size, 2, none⟩ = some (.int .i64 ah)) ∧ w1.cell? ⟨wm.heap.size, ai.toNat, none⟩ = some (.int .i64 (S ai)) ∧ w1.frozen? ⟨wm.heap.size, ai.toNat, none⟩ = false) := fun w1 hw => by
          obtain ⟨z0, z1, z2, _, _, _⟩ := (hbx.call hw).three
          exact ⟨⟨z0, z1, z2⟩, ((hxa.call hw).cell _).trans hhc, (hxa.call hw).free _⟩
        have HAF := fun w => Lib.hid (after_warm 0 ai ah (S ai) w hh0 ⟨p4, by omega⟩)
        have hbW : Below W0.heap.size W0 W0.drew := (Below.refl _ _).drew
        refine wp_region_low_tail 12 (hbW) (by kernel_rfl) (by kernel_rfl) ?_
        simp only [List.take_succ_cons, List.take_zero, List.drop_succ_cons, List.drop_zero]
        repeat (first
          | go_big_quiet_skip
          | (go_big_quiet_want
             apply Exists.intro
             refine And.intro (fun W hW => ?_) ?_
             · (obtain ⟨⟨z0, z1, z2⟩, z3, z4⟩ := HCL.out W hW)
               go_simp
               first
                 | exact rfl
                 | (first | (refine (HA W).out.mono ?_; rintro e w1 ⟨rfl, hb1⟩; exact ⟨rfl, bl_call hW hb1⟩) | (refine (HAF W).out.mono ?_; rintro e w1 ⟨rfl, hb1⟩; exact ⟨rfl, bl_call hW hb1⟩))
             try go_simp
             go_big_quiet_on))
        refine wpQuiet_nil ?_
        intro w9 hb9
        obtain ⟨⟨z0, z1, z2⟩, z3, z4⟩ := HCL.out w9 hb9
        have hx9 := (hxa.call hb9).set ai.toNat (.int .i64 (S ai + ah))
        obtain ⟨S', hS'⟩ : ∃ S' : Int → Int, S' = fun i => if i = ai then S ai + ah else S i := ⟨_, rfl⟩
        rw [heatCs_put (S' := S') p2 p3 (S ai + ah) (fun i => by rw [hS'])] at hx9
        have hmz : Mod (fun b => b = wm.heap.size) w9 (w9.setCell ⟨wm.heap.size, ai.toNat, none⟩ (.int .i64 (S ai + ah))) := (Mod.refl (fun b => b = wm.heap.size) w9).setCell (.inr rfl) _
        have hm9 := (hma.call hb9).mod hmz (by omega)
        have hbx9 := (hbx.call hb9).far (g' := wm.heap.size) (i := ai.toNat) (by have := hx.lt; omega) (.int .i64 (S ai + ah))
        have hb10 : Below w.heap.size w (w9.setCell ⟨wm.heap.size, ai.toNat, none⟩ (.int .i64 (S ai + ah))) := (hba.trans (hb9.mono hba.size)).trans (hmz.below (by have := hma.lt; have := hb9.size; omega) (fun k hk => by omega))
        obtain ⟨d0, d1, d2, _, _, _⟩ := hbx9.three
        have a0 : (w9.setCell ⟨wm.heap.size, ai.toNat, none⟩ (.int .i64 (S ai + ah))).cell? ⟨wm.heap.size, 0, none⟩ = some (.int .i64 (S' 0)) := hx9.cell 0
        have a1 : (w9.setCell ⟨wm.heap.size, ai.toNat, none⟩ (.int .i64 (S ai + ah))).cell? ⟨wm.heap.size, 1, none⟩ = some (.int .i64 (S' 1)) := hx9.cell 1
        have a2 : (w9.setCell ⟨wm.heap.size, ai.toNat, none⟩ (.int .i64 (S ai + ah))).cell? ⟨wm.heap.size, 2, none⟩ = some (.int .i64 (S' 2)) := hx9.cell 2
        have a3 : (w9.setCell ⟨wm.heap.size, ai.toNat, none⟩ (.int .i64 (S ai + ah))).cell? ⟨wm.heap.size, 3, none⟩ = some (.int .i64 (S' 3)) := hx9.cell 3
        obtain ⟨⟨m0, hm0⟩, hf0⟩ := hm9.cells hlt 0 (by omega)
        obtain ⟨⟨m1, hm1⟩, hf1⟩ := hm9.cells hlt 1 (by omega)
        obtain ⟨⟨m2, hm2⟩, hf2⟩ := hm9.cells hlt 2 (by omega)
        obtain ⟨⟨m3, hm3⟩, hf3⟩ := hm9.cells hlt 3 (by omega)
        obtain ⟨⟨m4, hm4⟩, hf4⟩ := hm9.cells hlt 4 (by omega)
        obtain ⟨⟨m5, hm5⟩, hf5⟩ := hm9.cells hlt 5 (by omega)
        obtain ⟨⟨m6, hm6⟩, hf6⟩ := hm9.cells hlt 6 (by omega)
        rw [Nat.add_zero] at hm0 hf0
        have HS' : Hid (S' = heatO (l.take (k + 1))) := by
          show _ = _
          funext i
          rw [(HN i).out, hS', hstep]
          show (if i = ai then S ai + ah else S i) = _
          by_cases e : i = ai
          · rw [if_pos e, if_pos e.symm]; rw [if_neg (by simp), e]
          · rw [if_neg e, if_neg (fun x => e x.symm)]
        clear hS'
        have hms := hm9.store hlt
        rw [HGX.out, ← HS'.out] at hms
        have hcb := (hba.trans (hb9.mono hba.size)).size
        have hbs := fun (W : World) (p : Nat) (v : Value) (h : Below w.heap.size w W) => h.setCell (p := ⟨w.heap.size, p, none⟩) (Nat.le_refl _) v
        have hbf := hbs _ (k * 7 + 6) (.int .i64 (S' 3)) (hbs _ (k * 7 + 5) (.int .i64 (S' 2)) (hbs _ (k * 7 + 4) (.int .i64 (S' 1)) (hbs _ (k * 7 + 3) (.int .i64 (S' 0)) (hbs _ (k * 7 + 2) (.int .i64 ah) (hbs _ (k * 7 + 1) (.int .i64 ai) (hbs _ (k * 7) (.int .i64 0) hb10))))))
        have hxf := ((((((hx9.far (g' := w.heap.size) (i := k * 7) (by omega) (.int .i64 0)).far (g' := w.heap.size) (i := k * 7 + 1) (by omega) (.int .i64 ai)).far (g' := w.heap.size) (i := k * 7 + 2) (by omega) (.int .i64 ah)).far (g' := w.heap.size) (i := k * 7 + 3) (by omega) (.int .i64 (S' 0))).far (g' := w.heap.size) (i := k * 7 + 4) (by omega) (.int .i64 (S' 1))).far (g' := w.heap.size) (i := k * 7 + 5) (by omega) (.int .i64 (S' 2))).far (g' := w.heap.size) (i := k * 7 + 6) (by omega) (.int .i64 (S' 3))
        go_wp2_with (fail)
        go_roundg gi
        case rel => exact ⟨k + 1, by have := HK.out; show _ = _; omega, by go_num, hms, by rw [← HS'.out]; exact hxf, hbf⟩
        case measure => omega
      · have HV : actV (1, ai, ah) = .iface 102 (.agg #[.int .i64 1, .int .i64 ai, .int .i64 ah]) := rfl
        rw [HV] at HA
        clear HV
        go_wp2_with (fail)
        obtain ⟨W0, hW0⟩ : ∃ W0, W0 = wr.alloc (.cells #[.int .i64 1, .int .i64 ai, .int .i64 ah] 61) := ⟨_, rfl⟩
        rw [← hW0] at hxa hbx hba hma ⊢
        clear hW0
        have HNA := na_g
        have HME := me_g
        have HCL : Hid (∀ w1, Below W0.heap.size W0 w1 → (w1.cell? ⟨wr.heap.size, 0, none⟩ = some (.int .i64 1) ∧ w1.cell? ⟨wr.heap.size, 1, none⟩ = some (.int .i64 ai) ∧ w1.cell? ⟨wr.heap.size, 2, none⟩ = some (.int .i64 ah)) ∧ w1.cell? ⟨wm.heap.size, ai.toNat, none⟩ = some (.int .i64 (S ai)) ∧ w1.frozen? ⟨wm.heap.size, ai.toNat, none⟩ = false) := fun w1 hw => by
          obtain ⟨z0, z1, z2, _, _, _⟩ := (hbx.call hw).three
          exact ⟨⟨z0, z1, z2⟩, ((hxa.call hw).cell _).trans hhc, (hxa.call hw).free _⟩
        have HAF := fun w => Lib.hid (after_warm 1 ai ah (S ai) w hh0 ⟨p4, by omega⟩)
        have hbW : Below W0.heap.size W0 W0.drew := (Below.refl _ _).drew
        refine wp_region_low_tail 12 (hbW) (by kernel_rfl) (by kernel_rfl) ?_
        simp only [List.take_succ_cons, List.take_zero, List.drop_succ_cons, List.drop_zero]
        repeat (first
          | go_big_quiet_skip
          | (go_big_quiet_want
             apply Exists.intro
             refine And.intro (fun W hW => ?_) ?_
             · (obtain ⟨⟨z0, z1, z2⟩, z3, z4⟩ := HCL.out W hW)
               go_simp
               first
                 | exact rfl
                 | (first | (refine (HA W).out.mono ?_; rintro e w1 ⟨rfl, hb1⟩; exact ⟨rfl, bl_call hW hb1⟩) | (refine (HAF W).out.mono ?_; rintro e w1 ⟨rfl, hb1⟩; exact ⟨rfl, bl_call hW hb1⟩))
             try go_simp
             go_big_quiet_on))
        refine wpQuiet_nil ?_
        intro w9 hb9
        obtain ⟨⟨z0, z1, z2⟩, z3, z4⟩ := HCL.out w9 hb9
        have hx9 := (hxa.call hb9).set ai.toNat (.int .i64 (S ai + ah))
        obtain ⟨S', hS'⟩ : ∃ S' : Int → Int, S' = fun i => if i = ai then S ai + ah else S i := ⟨_, rfl⟩
        rw [heatCs_put (S' := S') p2 p3 (S ai + ah) (fun i => by rw [hS'])] at hx9
        have hmz : Mod (fun b => b = wm.heap.size) w9 (w9.setCell ⟨wm.heap.size, ai.toNat, none⟩ (.int .i64 (S ai + ah))) := (Mod.refl (fun b => b = wm.heap.size) w9).setCell (.inr rfl) _
        have hm9 := (hma.call hb9).mod hmz (by omega)
        have hbx9 := (hbx.call hb9).far (g' := wm.heap.size) (i := ai.toNat) (by have := hx.lt; omega) (.int .i64 (S ai + ah))
        have hb10 : Below w.heap.size w (w9.setCell ⟨wm.heap.size, ai.toNat, none⟩ (.int .i64 (S ai + ah))) := (hba.trans (hb9.mono hba.size)).trans (hmz.below (by have := hma.lt; have := hb9.size; omega) (fun k hk => by omega))
        obtain ⟨d0, d1, d2, _, _, _⟩ := hbx9.three
        have a0 : (w9.setCell ⟨wm.heap.size, ai.toNat, none⟩ (.int .i64 (S ai + ah))).cell? ⟨wm.heap.size, 0, none⟩ = some (.int .i64 (S' 0)) := hx9.cell 0
        have a1 : (w9.setCell ⟨wm.heap.size, ai.toNat, none⟩ (.int .i64 (S ai + ah))).cell? ⟨wm.heap.size, 1, none⟩ = some (.int .i64 (S' 1)) := hx9.cell 1
        have a2 : (w9.setCell ⟨wm.heap.size, ai.toNat, none⟩ (.int .i64 (S ai + ah))).cell? ⟨wm.heap.size, 2, none⟩ = some (.int .i64 (S' 2)) := hx9.cell 2
        have a3 : (w9.setCell ⟨wm.heap.size, ai.toNat, none⟩ (.int .i64 (S ai + ah))).cell? ⟨wm.heap.size, 3, none⟩ = some (.int .i64 (S' 3)) := hx9.cell 3
        obtain ⟨⟨m0, hm0⟩, hf0⟩ := hm9.cells hlt 0 (by omega)
        obtain ⟨⟨m1, hm1⟩, hf1⟩ := hm9.cells hlt 1 (by omega)
        obtain ⟨⟨m2, hm2⟩, hf2⟩ := hm9.cells hlt 2 (by omega)
        obtain ⟨⟨m3, hm3⟩, hf3⟩ := hm9.cells hlt 3 (by omega)
        obtain ⟨⟨m4, hm4⟩, hf4⟩ := hm9.cells hlt 4 (by omega)
        obtain ⟨⟨m5, hm5⟩, hf5⟩ := hm9.cells hlt 5 (by omega)
        obtain ⟨⟨m6, hm6⟩, hf6⟩ := hm9.cells hlt 6 (by omega)
        rw [Nat.add_zero] at hm0 hf0
        have HS' : Hid (S' = heatO (l.take (k + 1))) := by
          show _ = _
          funext i
          rw [(HN i).out, hS', hstep]
          show (if i = ai then S ai + ah else S i) = _
          by_cases e : i = ai
          · rw [if_pos e, if_pos e.symm]; rw [if_neg (by simp), e]
          · rw [if_neg e, if_neg (fun x => e x.symm)]
        clear hS'
        have hms := hm9.store hlt
        rw [HGX.out, ← HS'.out] at hms
        have hcb := (hba.trans (hb9.mono hba.size)).size
        have hbs := fun (W : World) (p : Nat) (v : Value) (h : Below w.heap.size w W) => h.setCell (p := ⟨w.heap.size, p, none⟩) (Nat.le_refl _) v
        have hbf := hbs _ (k * 7 + 6) (.int .i64 (S' 3)) (hbs _ (k * 7 + 5) (.int .i64 (S' 2)) (hbs _ (k * 7 + 4) (.int .i64 (S' 1)) (hbs _ (k * 7 + 3) (.int .i64 (S' 0)) (hbs _ (k * 7 + 2) (.int .i64 ah) (hbs _ (k * 7 + 1) (.int .i64 ai) (hbs _ (k * 7) (.int .i64 1) hb10))))))
        have hxf := ((((((hx9.far (g' := w.heap.size) (i := k * 7) (by omega) (.int .i64 1)).far (g' := w.heap.size) (i := k * 7 + 1) (by omega) (.int .i64 ai)).far (g' := w.heap.size) (i := k * 7 + 2) (by omega) (.int .i64 ah)).far (g' := w.heap.size) (i := k * 7 + 3) (by omega) (.int .i64 (S' 0))).far (g' := w.heap.size) (i := k * 7 + 4) (by omega) (.int .i64 (S' 1))).far (g' := w.heap.size) (i := k * 7 + 5) (by omega) (.int .i64 (S' 2))).far (g' := w.heap.size) (i := k * 7 + 6) (by omega) (.int .i64 (S' 3))
        go_wp2_with (fail)
        go_roundg gi
        case rel => exact ⟨k + 1, by have := HK.out; show _ = _; omega, by go_num, hms, by rw [← HS'.out]; exact hxf, hbf⟩
        case measure => omega
      · have HV : actV (2, ai, ah) = .iface 98 (.agg #[]) := rfl
        rw [HV] at HA
        clear HV
        go_wp2_with (fail)
        obtain ⟨W0, hW0⟩ : ∃ W0, W0 = wr.alloc (.cells #[.int .i64 2, .int .i64 ai, .int .i64 ah] 61) := ⟨_, rfl⟩
        rw [← hW0] at hxa hbx hba hma ⊢
        clear hW0
        have HNA := na_c
        have HME := me_c
        have HCL : Hid (∀ w1, Below W0.heap.size W0 w1 → (w1.cell? ⟨wr.heap.size, 0, none⟩ = some (.int .i64 2) ∧ w1.cell? ⟨wr.heap.size, 1, none⟩ = some (.int .i64 ai) ∧ w1.cell? ⟨wr.heap.size, 2, none⟩ = some (.int .i64 ah)) ∧ w1.cell? ⟨wm.heap.size, ai.toNat, none⟩ = some (.int .i64 (S ai)) ∧ w1.frozen? ⟨wm.heap.size, ai.toNat, none⟩ = false) := fun w1 hw => by
          obtain ⟨z0, z1, z2, _, _, _⟩ := (hbx.call hw).three
          exact ⟨⟨z0, z1, z2⟩, ((hxa.call hw).cell _).trans hhc, (hxa.call hw).free _⟩
        have HAF := fun w => Lib.hid (after_cool (S ai) w)
        have hbW : Below W0.heap.size W0 W0.drew := (Below.refl _ _).drew
        refine wp_region_low_tail 12 (hbW) (by kernel_rfl) (by kernel_rfl) ?_
        simp only [List.take_succ_cons, List.take_zero, List.drop_succ_cons, List.drop_zero]
        repeat (first
          | go_big_quiet_skip
          | (go_big_quiet_want
             apply Exists.intro
             refine And.intro (fun W hW => ?_) ?_
             · (obtain ⟨⟨z0, z1, z2⟩, z3, z4⟩ := HCL.out W hW)
               go_simp
               first
                 | exact rfl
                 | (first | (refine (HA W).out.mono ?_; rintro e w1 ⟨rfl, hb1⟩; exact ⟨rfl, bl_call hW hb1⟩) | (refine (HAF W).out.mono ?_; rintro e w1 ⟨rfl, hb1⟩; exact ⟨rfl, bl_call hW hb1⟩))
             try go_simp
             go_big_quiet_on))
        refine wpQuiet_nil ?_
        intro w9 hb9
        obtain ⟨⟨z0, z1, z2⟩, z3, z4⟩ := HCL.out w9 hb9
        have hx9 := (hxa.call hb9).set ai.toNat (.int .i64 (0))
        obtain ⟨S', hS'⟩ : ∃ S' : Int → Int, S' = fun i => if i = ai then 0 else S i := ⟨_, rfl⟩
        rw [heatCs_put (S' := S') p2 p3 (0) (fun i => by rw [hS'])] at hx9
        have hmz : Mod (fun b => b = wm.heap.size) w9 (w9.setCell ⟨wm.heap.size, ai.toNat, none⟩ (.int .i64 (0))) := (Mod.refl (fun b => b = wm.heap.size) w9).setCell (.inr rfl) _
        have hm9 := (hma.call hb9).mod hmz (by omega)
        have hbx9 := (hbx.call hb9).far (g' := wm.heap.size) (i := ai.toNat) (by have := hx.lt; omega) (.int .i64 (0))
        have hb10 : Below w.heap.size w (w9.setCell ⟨wm.heap.size, ai.toNat, none⟩ (.int .i64 (0))) := (hba.trans (hb9.mono hba.size)).trans (hmz.below (by have := hma.lt; have := hb9.size; omega) (fun k hk => by omega))
        obtain ⟨d0, d1, d2, _, _, _⟩ := hbx9.three
        have a0 : (w9.setCell ⟨wm.heap.size, ai.toNat, none⟩ (.int .i64 (0))).cell? ⟨wm.heap.size, 0, none⟩ = some (.int .i64 (S' 0)) := hx9.cell 0
        have a1 : (w9.setCell ⟨wm.heap.size, ai.toNat, none⟩ (.int .i64 (0))).cell? ⟨wm.heap.size, 1, none⟩ = some (.int .i64 (S' 1)) := hx9.cell 1
        have a2 : (w9.setCell ⟨wm.heap.size, ai.toNat, none⟩ (.int .i64 (0))).cell? ⟨wm.heap.size, 2, none⟩ = some (.int .i64 (S' 2)) := hx9.cell 2
        have a3 : (w9.setCell ⟨wm.heap.size, ai.toNat, none⟩ (.int .i64 (0))).cell? ⟨wm.heap.size, 3, none⟩ = some (.int .i64 (S' 3)) := hx9.cell 3
        obtain ⟨⟨m0, hm0⟩, hf0⟩ := hm9.cells hlt 0 (by omega)
        obtain ⟨⟨m1, hm1⟩, hf1⟩ := hm9.cells hlt 1 (by omega)
        obtain ⟨⟨m2, hm2⟩, hf2⟩ := hm9.cells hlt 2 (by omega)
        obtain ⟨⟨m3, hm3⟩, hf3⟩ := hm9.cells hlt 3 (by omega)
        obtain ⟨⟨m4, hm4⟩, hf4⟩ := hm9.cells hlt 4 (by omega)
        obtain ⟨⟨m5, hm5⟩, hf5⟩ := hm9.cells hlt 5 (by omega)
        obtain ⟨⟨m6, hm6⟩, hf6⟩ := hm9.cells hlt 6 (by omega)
        rw [Nat.add_zero] at hm0 hf0
        have HS' : Hid (S' = heatO (l.take (k + 1))) := by
          show _ = _
          funext i
          rw [(HN i).out, hS', hstep]
          show (if i = ai then 0 else S i) = _
          by_cases e : i = ai
          · rw [if_pos e, if_pos e.symm]; rw [if_pos rfl]
          · rw [if_neg e, if_neg (fun x => e x.symm)]
        clear hS'
        have hms := hm9.store hlt
        rw [HGX.out, ← HS'.out] at hms
        have hcb := (hba.trans (hb9.mono hba.size)).size
        have hbs := fun (W : World) (p : Nat) (v : Value) (h : Below w.heap.size w W) => h.setCell (p := ⟨w.heap.size, p, none⟩) (Nat.le_refl _) v
        have hbf := hbs _ (k * 7 + 6) (.int .i64 (S' 3)) (hbs _ (k * 7 + 5) (.int .i64 (S' 2)) (hbs _ (k * 7 + 4) (.int .i64 (S' 1)) (hbs _ (k * 7 + 3) (.int .i64 (S' 0)) (hbs _ (k * 7 + 2) (.int .i64 ah) (hbs _ (k * 7 + 1) (.int .i64 ai) (hbs _ (k * 7) (.int .i64 2) hb10))))))
        have hxf := ((((((hx9.far (g' := w.heap.size) (i := k * 7) (by omega) (.int .i64 2)).far (g' := w.heap.size) (i := k * 7 + 1) (by omega) (.int .i64 ai)).far (g' := w.heap.size) (i := k * 7 + 2) (by omega) (.int .i64 ah)).far (g' := w.heap.size) (i := k * 7 + 3) (by omega) (.int .i64 (S' 0))).far (g' := w.heap.size) (i := k * 7 + 4) (by omega) (.int .i64 (S' 1))).far (g' := w.heap.size) (i := k * 7 + 5) (by omega) (.int .i64 (S' 2))).far (g' := w.heap.size) (i := k * 7 + 6) (by omega) (.int .i64 (S' 3))
        go_wp2_with (fail)
        go_roundg gi
        case rel => exact ⟨k + 1, by have := HK.out; show _ = _; omega, by go_num, hms, by rw [← HS'.out]; exact hxf, hbf⟩
        case measure => omega
end Go.Proofs.Ytlhnbknilcmleaa
