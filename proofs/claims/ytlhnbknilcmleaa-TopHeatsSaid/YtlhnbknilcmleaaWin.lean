/- The windows of a plan. -/
import Derived.Test.YtlhnbknilcmleaaOf
import Derived.Test.YtlhnbknilcmleaaHeatW
namespace Go.Proofs.Ytlhnbknilcmleaa
open Go.RowKit

theorem step_append_run {P : Program} {ops : Array Oper} {o : Oper} {a : Act} {w : World} {K : Act → World → Prop} {Q : Exit → Act → World → Prop} {E : Prop}
    (hg : o.guard = none) (s x : Operand) (t : TypeId) (hop : o.op = Op.call { callee := Callee.builtin Builtin.append, args := #[s, x], argTypes := #[t, t] })
    (v1 v2 v' : Value) (W2 : World) (hs : a.eval s = v1) (hx : a.eval x = v2) (hrun : ∀ ty, (Builtin.append_ #[t, t] ty #[v1, v2]).run P w = .ok v' W2) (hK : K (a.put o.dst v') W2) :
    if Region.wanted o (yielded ops a.tmps) = true then Oper.wp P o a w K Q else E := by
  have hw : Region.wanted o (yielded ops a.tmps) = true := by simp [Region.wanted, hg]
  rw [if_pos hw]
  unfold Oper.wp execOp
  simp only [hop, resolve, invoke, builtin, Sem.run_bind, Sem.run_pure, Result.andThen_ok, List.map_toArray, List.map_cons, List.map_nil, hs, hx, hrun]
  exact hK

/-- The stretches of four ions in memory. -/
def strCs (S : Int → Int × Int) : Array Value := #[.int .i64 (S 0).1, .int .i64 (S 0).2, .int .i64 (S 1).1, .int .i64 (S 1).2, .int .i64 (S 2).1, .int .i64 (S 2).2, .int .i64 (S 3).1, .int .i64 (S 3).2]
theorem ion_four {ion : Int} (h0 : 0 ≤ ion) (h3 : ion ≤ 3) : ion = 0 ∨ ion = 1 ∨ ion = 2 ∨ ion = 3 := by omega
theorem strCs_get (S : Int → Int × Int) {ion : Int} (h0 : 0 ≤ ion) (h3 : ion ≤ 3) : (strCs S)[ion.toNat * 2]? = some (.int .i64 (S ion).1) ∧ (strCs S)[ion.toNat * 2 + 1]? = some (.int .i64 (S ion).2) := by
  rcases ion_four h0 h3 with rfl | rfl | rfl | rfl <;> exact ⟨rfl, rfl⟩
theorem strCs_put {S S' : Int → Int × Int} {ion : Int} (h0 : 0 ≤ ion) (h3 : ion ≤ 3) (p : Int × Int) (h : ∀ i, S' i = if i = ion then p else S i) :
    ((strCs S).setIfInBounds (ion.toNat * 2) (.int .i64 p.1)).setIfInBounds (ion.toNat * 2 + 1) (.int .i64 p.2) = strCs S' := by
  have e0 := h 0
  have e1 := h 1
  have e2 := h 2
  have e3 := h 3
  rcases ion_four h0 h3 with rfl | rfl | rfl | rfl <;> simp at e0 e1 e2 e3 <;> simp [strCs, e0, e1, e2, e3]
theorem strCs_put1 {S S' : Int → Int × Int} {ion : Int} (h0 : 0 ≤ ion) (h3 : ion ≤ 3) (x : Int) (h : ∀ i, S' i = if i = ion then ((S ion).1, x) else S i) :
    (strCs S).setIfInBounds (ion.toNat * 2 + 1) (.int .i64 x) = strCs S' := by
  have e0 := h 0
  have e1 := h 1
  have e2 := h 2
  have e3 := h 3
  rcases ion_four h0 h3 with rfl | rfl | rfl | rfl <;> simp at e0 e1 e2 e3 <;> simp [strCs, e0, e1, e2, e3]
theorem str_next (lim : Int) (l : List T3) (k : Nat) (p : Int × Int) (hp : sstep lim (l.getD k t0).2.1 k (strTo lim l (l.getD k t0).2.1 k) (l.getD k t0) = p) : ∀ i, strTo lim l i (k + 1) = if i = (l.getD k t0).2.1 then p else strTo lim l i k := fun i => by
  rw [strTo]
  by_cases e : i = (l.getD k t0).2.1
  · rw [if_pos e, e]; exact hp
  · rw [if_neg e]; unfold sstep; exact if_neg (fun x => e x.symm)
theorem addCs_str {S S' : Int → Int × Int} {ion : Int} (h0 : 0 ≤ ion) (h3 : ion ≤ 3) (k h : Int) (hS : ∀ i, S' i = if i = ion then (if (S ion).2 = 0 then k else (S ion).1, (S ion).2 + h) else S i) : addCs (strCs S) (ion.toNat * 2) (S ion).2 k h = strCs S' := by
  unfold addCs
  by_cases hz : (S ion).2 = 0
  · rw [if_pos hz] at hS ⊢
    exact strCs_put h0 h3 (k, (S ion).2 + h) hS
  · rw [if_neg hz] at hS ⊢
    exact strCs_put1 h0 h3 ((S ion).2 + h) hS

theorem wOf_eq (lim : Int) (l : List T3) (k : Nat) (hk : k < l.length) : wOf lim l k = if (l.getD k t0).1 = 1 ∧ lim < (strTo lim l (l.getD k t0).2.1 k).2 then [((l.getD k t0).2.1, (strTo lim l (l.getD k t0).2.1 k).1, (k : Int))] else [] := by
  rw [wOf, strTo_heat _ k (by omega), wAt]
  simp only [trig, Bool.and_eq_true, beq_iff_eq, decide_eq_true_eq]

set_option maxRecDepth 100000 in
set_option maxHeartbeats 4000000 in
theorem windowsOf_c (A : Option Addr) (l : List T3) (c : Nat) (lim : Int) (w : World) (h20 : l.length ≤ 20) (ha : Acts l) (hlim : 0 ≤ lim ∧ lim ≤ 100) (hr : Rd w A (cellsT l)) :
    Calls Try.prog 66 #[.slice A l.length c, .int .i64 lim] w fun e w' => ∃ A' c', e = .returned (.slice A' (winL lim l).length c') ∧ w'.ownsRow w.heap.size 67 3 (.slice A' (winL lim l).length c') (winL lim l).length (cellsT (winL lim l)) ∧ Below w.heap.size w w' := by
  obtain ⟨hl0, hl1⟩ := hlim
  go_enter Try.func66, Try.ntmps66
  go_wp2_with (fail)
  go_loopg [5, 12] l.length (fun gk v iv wr => ∃ k : Nat, k + gk = l.length ∧ iv = .int .i64 (k : Int) ∧ wr.ownsRow (w.heap.size + 1) 67 3 v (winTo lim l k).length (cellsT (winTo lim l k)) ∧ Bx wr w.heap.size 95 (strCs (fun i => strTo lim l i k)) ∧ Below w.heap.size w wr)
  case atStart => exact ⟨0, by omega, rfl, World.ownsRow_nil _ _ _ _, Bx.new _ _ _, bl_alloc (Below.refl _ _) _⟩
  case round =>
    obtain ⟨k, hk, rfl, hown, hx, hb⟩ := hrel
    rcases gk with _ | gi
    · obtain rfl : k = l.length := by omega
      obtain ⟨A', c', rfl⟩ := own_form hown
      go_wp2_with (fail)
      go_ret
      exact ⟨A', c', rfl, own_base hown (by omega), hb⟩
    · have hlt : k < l.length := by omega
      have hlt' : (k : Int) < (l.length : Int) := by omega
      obtain ⟨b, o, rfl, hbl, c0, c1, c2⟩ := (hr.later hb).tri hlt
      have h4 := ha.get hlt
      have HN := Lib.hid (str_next lim l k)
      have HW : Hid (winTo lim l (k + 1) = winTo lim l k ++ (if (l.getD k t0).1 = 1 ∧ lim < (strTo lim l (l.getD k t0).2.1 k).2 then [((l.getD k t0).2.1, (strTo lim l (l.getD k t0).2.1 k).1, (k : Int))] else [])) := by
        show _ = _; rw [winTo_succ, wOf_eq lim l k hlt]
      have hwl : (winTo lim l k).length ≤ 20 := by
        have := winTo_len (lim := lim) ha k (by omega)
        have := few_len (lim := lim) ha k (by omega)
        omega
      have HR : Hid (0 ≤ (strTo lim l (l.getD k t0).2.1 k).2 ∧ (strTo lim l (l.getD k t0).2.1 k).2 ≤ 1000000) := by
        have hsr := gr_range (ha.take k) lim (l.getD k t0).2.1
        have hst := strTo_heat (lim := lim) (l := l) (l.getD k t0).2.1 k (by omega)
        rw [List.length_take] at hsr
        show _ ∧ _
        rw [hst]; omega
      generalize l.getD k t0 = g at c0 c1 c2 h4 HN HW HR
      obtain ⟨ak, ai, ah⟩ := g
      obtain ⟨p0, p1, p2, p3, p4, p5, _⟩ := h4
      simp only [] at c0 c1 c2 p0 p1 p2 p3 p4 p5 HW HR
      have HA := fun w => Lib.hid (actOf_c ak ai ah w)
      obtain ⟨S, hS⟩ : ∃ S : Int → Int × Int, S = fun i => strTo lim l i k := ⟨_, rfl⟩
      obtain ⟨S', hS'⟩ : ∃ S' : Int → Int × Int, S' = fun i => strTo lim l i (k + 1) := ⟨_, rfl⟩
      have hSa : S ai = strTo lim l ai k := by rw [hS]
      rw [← hS] at hx
      rw [← hSa] at HW HR
      have HN2 : Hid (∀ p, sstep lim ai k (S ai) (ak, ai, ah) = p → ∀ i, S' i = if i = ai then p else S i) := fun p hp i => by
        rw [hS', hS]
        exact HN.out p (by rw [← hSa]; exact hp) i
      have HS2 := Lib.hid hS'
      clear hS hS' HN hSa
      have HG := Lib.hid (strCs_get S p2 p3)
      generalize winTo lim l k = WL at hown HW hwl
      obtain ⟨sf, hsf⟩ : ∃ sf, sf = (S ai).1 := ⟨_, rfl⟩
      obtain ⟨sh, hsh⟩ : ∃ sh, sh = (S ai).2 := ⟨_, rfl⟩
      have hgl := hx.lt
      have hxa := hx.alloc (.cells #[.int .i64 ak, .int .i64 ai, .int .i64 ah] 61)
      have hbx : Bx (wr.alloc (.cells #[.int .i64 ak, .int .i64 ai, .int .i64 ah] 61)) wr.heap.size 61 #[.int .i64 ak, .int .i64 ai, .int .i64 ah] := Bx.new _ _ _
      have howa := hown.alloc (.cells #[.int .i64 ak, .int .i64 ai, .int .i64 ah] 61)
      have hba := hb.alloc hb.size (.cells #[.int .i64 ak, .int .i64 ai, .int .i64 ah] 61)
      -- the end of a round in which the act is added
      have FIN : Hid (∀ (w1 w2 : World) (v : Value) (WL' : List T3) (cs : Array Value), w1.ownsRow (w.heap.size + 1) 67 3 v WL'.length (cellsT WL') → Below w.heap.size w w1 → w.heap.size < w1.heap.size → Bx w2 w.heap.size 95 cs → Mod (fun b => b = w.heap.size) w1 w2 →
          w2.ownsRow (w.heap.size + 1) 67 3 v WL'.length (cellsT WL') ∧ Below w.heap.size w w2) := fun w1 w2 v WL' cs ho hb hlt hx hm =>
        ⟨own_mod ho hm (fun k hk e => by have := (ho.lt k hk).1; omega), hb.trans (hm.below (by omega) (fun k hk => by omega))⟩
      have HADD : Hid (∀ (w1 : World), Bx w1 w.heap.size 95 (strCs S) → Calls Try.prog 82 #[.pointer (some ⟨w.heap.size, ai.toNat * 2, none⟩), .int .i64 k, .agg #[.int .i64 ak, .int .i64 ai, .int .i64 ah]] w1 fun e w' => (∃ v, e = .returned v) ∧ Bx w' w.heap.size 95 (addCs (strCs S) (ai.toNat * 2) (S ai).2 k ah) ∧ Mod (fun b => b = w.heap.size) w1 w') := fun w1 h1 =>
        add_c w.heap.size _ _ _ _ _ k ak ai ah w1 h1 HG.out.1 HG.out.2 HR.out ⟨p4, by omega⟩
      rcases (by omega : ak = 0 ∨ ak = 1 ∨ ak = 2) with rfl | rfl | rfl
      · have HV : actV (0, ai, ah) = .iface 104 (.agg #[.int .i64 0, .int .i64 ai, .int .i64 ah]) := rfl
        rw [HV] at HA
        have TA1 := ta_mc
        have TA2 := ta_mg
        have TA3 := ta_mm
        have HX : Hid (addCs (strCs S) (ai.toNat * 2) (S ai).2 k ah = strCs S') := addCs_str p2 p3 k ah (HN2.out _ (by rw [sstep, if_pos rfl, if_neg (by simp), if_neg (fun x => absurd x.1 (by simp))]))
        have HWe : Hid (winTo lim l (k + 1) = WL) := by show _ = _; rw [HW.out, if_neg (fun x => absurd x.1 (by decide))]; simp
        clear HV hsf hsh
        go_wp2_with (first | (go_at_call 78; refine (HA _).out.mono ?_; rintro e w1 ⟨rfl, hb1⟩; have hxb := hbx.call hb1; obtain ⟨y0, y1, y2, _, _, _⟩ := hxb.three; have hx1 := hxa.call hb1) | (go_at_call 82; refine (HADD.out w1 hx1).mono ?_; rintro e w2 ⟨⟨v, rfl⟩, hx2, hm2⟩))
        obtain ⟨ho2, hb2⟩ := FIN.out w1 w2 _ _ _ (own_call howa hb1) (hba.trans (hb1.mono hba.size)) hx1.lt hx2 hm2
        rw [HX.out] at hx2
        go_roundg gi
        case rel => exact ⟨k + 1, by omega, by go_num, by rw [HWe.out]; exact ho2, by rw [← HS2.out]; exact hx2, hb2⟩
        case measure => omega
      · have HV : actV (1, ai, ah) = .iface 102 (.agg #[.int .i64 1, .int .i64 ai, .int .i64 ah]) := rfl
        rw [HV] at HA
        have TA1 := ta_gc
        have TA2 := ta_gg
        by_cases ht : lim < sh
        · have hc1 : (1 : Int) = 1 ∧ lim < (S ai).2 := ⟨rfl, by rw [← hsh]; exact ht⟩
          have HWe : Hid (winTo lim l (k + 1) = WL ++ [(ai, sf, (k : Int))]) := by show _ = _; rw [HW.out, if_pos hc1, hsf]
          obtain ⟨S0, hS0⟩ : ∃ S0 : Int → Int × Int, S0 = fun i => if i = ai then (0, 0) else S i := ⟨_, rfl⟩
          have h00 : S0 ai = (0, 0) := by rw [hS0]; exact if_pos rfl
          have HX0 : Hid (((strCs S).setIfInBounds (ai.toNat * 2) (.int .i64 0)).setIfInBounds (ai.toNat * 2 + 1) (.int .i64 0) = strCs S0) := strCs_put p2 p3 (0, 0) (fun i => by rw [hS0])
          have HX : Hid (addCs (strCs S0) (ai.toNat * 2) 0 k ah = strCs S') := by
            have := addCs_str (S := S0) (S' := S') p2 p3 k ah (fun i => by
              have h := HN2.out _ rfl i
              rw [h, h00, hS0]
              simp only
              by_cases e : i = ai
              · rw [if_pos e, if_pos e]
                unfold sstep
                rw [if_pos rfl, if_neg (by simp), if_pos hc1]; simp
              · rw [if_neg e, if_neg e, if_neg e])
            rw [h00] at this; exact this
          have HG0 := Lib.hid (strCs_get S0 p2 p3)
          have HADD0 : Hid (∀ (w1 : World), Bx w1 w.heap.size 95 (strCs S0) → Calls Try.prog 82 #[.pointer (some ⟨w.heap.size, ai.toNat * 2, none⟩), .int .i64 k, .agg #[.int .i64 1, .int .i64 ai, .int .i64 ah]] w1 fun e w' => (∃ v, e = .returned v) ∧ Bx w' w.heap.size 95 (addCs (strCs S0) (ai.toNat * 2) 0 k ah) ∧ Mod (fun b => b = w.heap.size) w1 w') := fun w1 h1 => by
            have hg := HG0.out
            rw [h00] at hg
            exact add_c w.heap.size _ _ _ _ _ k 1 ai ah w1 h1 hg.1 hg.2 ⟨by simp, by simp⟩ ⟨p4, by omega⟩
          have HSF : Hid ((S ai).1 = sf ∧ (S ai).2 = sh) := ⟨hsf.symm, hsh.symm⟩
          clear HV hc1 hS0 h00 hsf hsh
          go_wp2_with (first | (go_at_call 78; refine (HA _).out.mono ?_; rintro e w1 ⟨rfl, hb1⟩; have hxb := hbx.call hb1; obtain ⟨y0, y1, y2, _, _, _⟩ := hxb.three; have hx1 := hxa.call hb1; have q0 := (hx1.cell _).trans HG.out.1; have q1 := (hx1.cell _).trans HG.out.2; rw [HSF.out.1] at q0; rw [HSF.out.2] at q1))
          have how1 := own_call howa hb1
          have hbw1 := hba.trans (hb1.mono hba.size)
          have hsz1 : w.heap.size + 1 ≤ w1.drew.heap.size := hx1.lt
          obtain ⟨A2, c2, W2, E1, ho2, hb2, hkeep⟩ := append_three (w.heap.size + 1) 48 67 win_info Try.underlying48 w1.drew u5 WL (ai, sf, (k : Int)) (own_call how1 (Below.refl _ w1).drew) (by omega) hsz1
          have HE1 := Lib.hid E1
          have hx2 : Bx W2 w.heap.size 95 (strCs S) := (hb2.block w.heap.size (by omega)).trans hx1.drew
          have hxb2 : Bx W2 wr.heap.size 61 #[.int .i64 1, .int .i64 ai, .int .i64 ah] := hkeep _ _ _ (by decide) hxb.drew
          have r0 := (hx2.cell _).trans HG.out.1
          have r1 := (hx2.cell _).trans HG.out.2
          have rf0 := hx2.free (ai.toNat * 2)
          have rf1 := hx2.free (ai.toNat * 2 + 1)
          have hx3 := (hx2.set (ai.toNat * 2) (.int .i64 0)).set (ai.toNat * 2 + 1) (.int .i64 0)
          rw [HX0.out] at hx3
          have hxb3 : Bx ((W2.setCell ⟨w.heap.size, ai.toNat * 2, none⟩ (.int .i64 0)).setCell ⟨w.heap.size, ai.toNat * 2 + 1, none⟩ (.int .i64 0)) wr.heap.size 61 #[.int .i64 1, .int .i64 ai, .int .i64 ah] := (hxb2.far (by omega) _).far (by omega) _
          obtain ⟨z0, z1, z2, _, _, _⟩ := hxb3.three
          have hm3 : Mod (fun b => b = w.heap.size) W2 ((W2.setCell ⟨w.heap.size, ai.toNat * 2, none⟩ (.int .i64 0)).setCell ⟨w.heap.size, ai.toNat * 2 + 1, none⟩ (.int .i64 0)) := ((Mod.refl (fun b => b = w.heap.size) W2).setCell (.inr rfl) _).setCell (.inr rfl) _
          have hbw2 : Below w.heap.size w W2 := (hbw1.trans ((Below.refl w.heap.size w1).drew)).trans (hb2.mono (by omega))
          clear E1 HA
          go_region_law (refine step_append_run rfl (.tmp 37) (.tmp 46) 48 rfl _ _ _ W2 (by simp [Act.eval]) (by simp [Act.eval]) HE1.out ?_)
          all_goals
            go_wp2_with (go_at_call 82; refine (HADD0.out _ hx3).mono ?_; rintro e w4 ⟨⟨v, rfl⟩, hx4, hm4⟩)
            obtain ⟨ho4, hb4⟩ := FIN.out W2 w4 _ (WL ++ [(ai, sf, (k : Int))]) _ ho2 hbw2 hx2.lt hx4 (hm3.trans hm4)
            rw [HX.out] at hx4
            go_roundg gi
            case rel => exact ⟨k + 1, by omega, by go_num, by rw [HWe.out]; exact ho4, by rw [← HS2.out]; exact hx4, hb4⟩
            case measure => omega
        · have hc1 : ¬ ((1 : Int) = 1 ∧ lim < (S ai).2) := fun x => ht (by rw [hsh]; exact x.2)
          have HX : Hid (addCs (strCs S) (ai.toNat * 2) (S ai).2 k ah = strCs S') := addCs_str p2 p3 k ah (HN2.out _ (by rw [sstep, if_pos rfl, if_neg (by simp), if_neg hc1]))
          have HWe : Hid (winTo lim l (k + 1) = WL) := by show _ = _; rw [HW.out, if_neg hc1]; simp
          have HSF : Hid ((S ai).1 = sf ∧ (S ai).2 = sh) := ⟨hsf.symm, hsh.symm⟩
          clear HV hsf hsh hc1
          go_wp2_with (first | (go_at_call 78; refine (HA _).out.mono ?_; rintro e w1 ⟨rfl, hb1⟩; have hxb := hbx.call hb1; obtain ⟨y0, y1, y2, _, _, _⟩ := hxb.three; have hx1 := hxa.call hb1; have q0 := (hx1.cell _).trans HG.out.1; have q1 := (hx1.cell _).trans HG.out.2; rw [HSF.out.1] at q0; rw [HSF.out.2] at q1) | (go_at_call 82; refine (HADD.out w1 hx1).mono ?_; rintro e w2 ⟨⟨v, rfl⟩, hx2, hm2⟩))
          obtain ⟨ho2, hb2⟩ := FIN.out w1 w2 _ _ _ (own_call howa hb1) (hba.trans (hb1.mono hba.size)) hx1.lt hx2 hm2
          rw [HX.out] at hx2
          go_roundg gi
          case rel => exact ⟨k + 1, by omega, by go_num, by rw [HWe.out]; exact ho2, by rw [← HS2.out]; exact hx2, hb2⟩
          case measure => omega
      · have HV : actV (2, ai, ah) = .iface 98 (.agg #[]) := rfl
        rw [HV] at HA
        have TA1 := ta_cc
        have HX : Hid (((strCs S).setIfInBounds (ai.toNat * 2) (.int .i64 0)).setIfInBounds (ai.toNat * 2 + 1) (.int .i64 0) = strCs S') := strCs_put p2 p3 (0, 0) (HN2.out _ (by rw [sstep, if_pos rfl, if_pos rfl]))
        have HWe : Hid (winTo lim l (k + 1) = WL) := by show _ = _; rw [HW.out, if_neg (fun x => absurd x.1 (by decide))]; simp
        clear HV hsf hsh
        go_wp2_with (first | (go_at_call 78; refine (HA _).out.mono ?_; rintro e w1 ⟨rfl, hb1⟩; have hxb := hbx.call hb1; obtain ⟨y0, y1, y2, _, _, _⟩ := hxb.three; have hx1 := hxa.call hb1; have q0 := (hx1.cell _).trans HG.out.1; have q1 := (hx1.cell _).trans HG.out.2; have f0 := hx1.free (ai.toNat * 2); have f1 := hx1.free (ai.toNat * 2 + 1)))
        have hxz := (hx1.set (ai.toNat * 2) (.int .i64 0)).set (ai.toNat * 2 + 1) (.int .i64 0)
        rw [HX.out] at hxz
        have hm2 : Mod (fun b => b = w.heap.size) w1 ((w1.setCell ⟨w.heap.size, ai.toNat * 2, none⟩ (.int .i64 0)).setCell ⟨w.heap.size, ai.toNat * 2 + 1, none⟩ (.int .i64 0)) := ((Mod.refl (fun b => b = w.heap.size) w1).setCell (.inr rfl) _).setCell (.inr rfl) _
        obtain ⟨ho2, hb2⟩ := FIN.out w1 _ _ _ _ (own_call howa hb1) (hba.trans (hb1.mono hba.size)) hx1.lt hxz hm2
        go_roundg gi
        case rel => exact ⟨k + 1, by omega, by go_num, by rw [HWe.out]; exact ho2, by rw [← HS2.out]; exact hxz, hb2⟩
        case measure => omega
end Go.Proofs.Ytlhnbknilcmleaa
