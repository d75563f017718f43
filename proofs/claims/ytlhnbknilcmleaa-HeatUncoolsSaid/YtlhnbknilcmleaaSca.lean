/- Plans with all heats multiplied: slices.Clone at acts, package heat's Scale. -/
import Derived.Test.YtlhnbknilcmleaaOnly
import Derived.Laws.OwnMore
namespace Go.Proofs.Ytlhnbknilcmleaa
open Go.RowKit

def sclB (b h : Int) : Bool := h == 0 || (decide (0 ≤ b) && decide (b * h ≤ 100))
def sclX (b : Int) (a : T3) : T3 := (a.1, a.2.1, a.2.2 * b)
def sclOk (b : Int) (l : List T3) : Bool := l.all fun a => sclB b a.2.2
def sclE (n : Int) (l : List T3) (b : Int) : Int := if validE n l = 0 then (if sclOk b l then 0 else 1) else validE n l
def sclG (n : Int) (l : List T3) (b : Int) : List T3 := if sclE n l b = 0 then l.map (sclX b) else []
def sclTo (b : Int) (l : List T3) (k : Nat) : List T3 := (l.take k).map (sclX b) ++ l.drop k
theorem sclTo_len {b : Int} {l : List T3} {k : Nat} (h : k ≤ l.length) : (sclTo b l k).length = l.length := by simp [sclTo]; omega
theorem sclTo_zero (b : Int) (l : List T3) : sclTo b l 0 = l := by simp [sclTo]
theorem sclTo_end (b : Int) (l : List T3) : sclTo b l l.length = l.map (sclX b) := by simp [sclTo]
theorem sclTo_get {b : Int} {l : List T3} {k : Nat} (h : k < l.length) : (sclTo b l k).getD k t0 = l.getD k t0 := by
  have h1 : ((l.take k).map (sclX b)).length = k := by simp; omega
  rw [sclTo, List.getD_eq_getElem?_getD, List.getElem?_append_right (by omega), h1, Nat.sub_self, List.drop_eq_getElem_cons h]
  simp [h]
theorem sclTo_set {b : Int} {l : List T3} {k : Nat} (h : k < l.length) : (sclTo b l k).set k (sclX b (l.getD k t0)) = sclTo b l (k + 1) := by
  have h1 : ((l.take k).map (sclX b)).length = k := by simp; omega
  have h2 : l.getD k t0 = l[k] := by simp [h]
  rw [sclTo, List.set_append_right _ _ (by omega), h1, Nat.sub_self, List.drop_eq_getElem_cons h, List.set_cons_zero, sclTo, List.take_succ_eq_append_getElem h, h2, List.map_append, List.append_assoc]
  rfl
theorem sclOk_bad {b : Int} {l : List T3} {k : Nat} (h : k < l.length) (hb : sclB b (l.getD k t0).2.2 = false) : sclOk b l = false := all_no (f := fun a => sclB b a.2.2) h hb
theorem sclOk_all {b : Int} {l : List T3} (h : ∀ j, j < l.length → sclB b (l.getD j t0).2.2 = true) : sclOk b l = true := by
  rw [sclOk, List.all_eq_true]
  intro x hx
  obtain ⟨j, hj, rfl⟩ := List.getElem_of_mem hx
  have := h j hj
  simpa [hj] using this
theorem scl_cases3 (n : Int) (l : List T3) (b : Int) : (validE n l ≠ 0 ∧ sclE n l b = validE n l ∧ sclG n l b = []) ∨ (validE n l = 0 ∧ (sclOk b l = true → sclE n l b = 0 ∧ sclG n l b = l.map (sclX b)) ∧ (sclOk b l = false → sclE n l b = 1 ∧ sclG n l b = [])) := by
  by_cases h : validE n l = 0
  · refine .inr ⟨h, fun h2 => ?_, fun h2 => ?_⟩
    · have e : sclE n l b = 0 := by rw [sclE, if_pos h, h2]; rfl
      exact ⟨e, by rw [sclG, if_pos e]⟩
    · have e : sclE n l b = 1 := by rw [sclE, if_pos h, h2]; rfl
      exact ⟨e, by rw [sclG, e]; rfl⟩
  · have e : sclE n l b = validE n l := by rw [sclE, if_neg h]
    exact .inl ⟨h, e, by rw [sclG, e, if_neg h]⟩
theorem scl_wrap {b h : Int} (hs : sclB b h = true) (h0 : 0 ≤ h) : wrap64 (h * b) = h * b := by
  rw [sclB] at hs
  by_cases e : h = 0
  · subst e; simp [wrap64]
  · simp only [Bool.or_eq_true, beq_iff_eq, e, false_or, Bool.and_eq_true, decide_eq_true_eq] at hs
    obtain ⟨h1, h2⟩ := hs
    have h3 : 0 ≤ h * b := Int.mul_nonneg h0 h1
    rw [Int.mul_comm] at h2
    generalize h * b = p at *
    exact IntWalk.wrap64_in _ ⟨by omega, by omega⟩

theorem cellsT_set2 : ∀ (M : List T3) (k : Nat) (x : Int), (cellsT M).set (k * 3 + 2) (.int .i64 x) = cellsT (M.set k ((M.getD k t0).1, (M.getD k t0).2.1, x))
  | [], k, x => by simp [cellsT]
  | a :: t, 0, x => rfl
  | a :: t, k + 1, x => by
    have ih := cellsT_set2 t k x
    have e : (k + 1) * 3 + 2 = k * 3 + 2 + 1 + 1 + 1 := by omega
    show ([Value.int .i64 a.1, .int .i64 a.2.1, .int .i64 a.2.2] ++ cellsT t).set ((k + 1) * 3 + 2) _ = _
    rw [e]
    show Value.int .i64 a.1 :: .int .i64 a.2.1 :: .int .i64 a.2.2 :: (cellsT t).set (k * 3 + 2) (.int .i64 x) = _
    rw [ih]
    rfl
theorem own_putT {w : World} {base c k n : Nat} {T : TypeId} {A : Option Addr} {M : List T3} (h : w.ownsRow base T 3 (.slice A n c) n (cellsT M)) (hn : M.length = n) (hk : k < n) :
    ∃ g, A = some ⟨g, 0, none⟩ ∧ base ≤ g ∧ g < w.heap.size ∧ (w.cell? ⟨g, k * 3, none⟩ = some (.int .i64 (M.getD k t0).1) ∧ w.cell? ⟨g, k * 3 + 1, none⟩ = some (.int .i64 (M.getD k t0).2.1) ∧ w.cell? ⟨g, k * 3 + 2, none⟩ = some (.int .i64 (M.getD k t0).2.2)) ∧ w.frozen? ⟨g, k * 3 + 2, none⟩ = false ∧
      ∀ x, (w.setCell ⟨g, k * 3 + 2, none⟩ (.int .i64 x)).ownsRow base T 3 (.slice A n c) n (cellsT (M.set k ((M.getD k t0).1, (M.getD k t0).2.1, x))) := by
  have h' := h
  rcases h'.2 with ⟨he, _⟩ | ⟨g, cap, cur, hv, hb, hg, _⟩
  · simp at he; omega
  · simp only [Value.slice.injEq] at hv
    obtain ⟨rfl, _, rfl⟩ := hv
    have hgl : g < w.heap.size := (Array.getElem?_eq_some_iff.1 hg).1
    refine ⟨g, rfl, hb, hgl, ?_, h.frozenAt _, fun x => ?_⟩
    · obtain ⟨b, o, he, _, h0, h1, h2⟩ := (own_rd h).1.tri (k := k) (by omega)
      injection he with he
      injection he with e1 e2
      subst e1 e2
      rw [Nat.zero_add] at h0 h1 h2
      exact ⟨h0, h1, h2⟩
    · rw [← cellsT_set2]
      exact (h.stored _ _).1

set_option maxRecDepth 100000 in
theorem cloneA_c (A : Option Addr) (l : List T3) (cap : Nat) (w : World) (hlen : l.length ≤ 1000) (hr : Rd w A (cellsT l)) :
    Calls Try.prog 75 #[.slice A l.length cap] w fun e w' => ∃ A' c', e = .returned (.slice A' l.length c') ∧ w'.ownsRow w.heap.size 61 3 (.slice A' l.length c') l.length (cellsT l) ∧ Below w.heap.size w w' := by
  obtain ⟨i0, hi, hz0, hz1, hz2⟩ := info_parts act_info
  have qT : ∀ (w : World) (a : Option Addr) (n c n' c' : Nat), (binOp .eql 22 (.slice a n c) (.slice none n' c')).run Try.prog w = .ok (.bool a.isNone) w := fun w a n c n' c' => Lib.run_eql_slice_nil w _ _ a n c n' c' Try.underlying22
  cases A with
  | none =>
    have h0 : l = [] := by
      rcases hr with h | ⟨_, _, h, _⟩
      · have := congrArg List.length h; rw [cellsT_length] at this; exact List.length_eq_zero_iff.1 (by simp at this; omega)
      · cases h
    subst h0
    go_enter Try.func75, Try.ntmps75
    go_wp2_with (fail)
    go_ret
    exact ⟨none, 0, rfl, World.ownsRow_nil _ _ _ _, Below.refl _ _⟩
  | some ad =>
    have hown := World.ownsRow_made (e := 61) (size := 3) w #[] 0 (Nat.le_refl _) (by decide) rfl
    have hb0 : Below w.heap.size w (w.alloc (.cells #[] 61)) := bl_alloc (Below.refl _ _) _
    obtain ⟨A', c', w2, hrun, hown2, hg2⟩ := run_append_rows (P := Try.prog) (w.alloc (.cells #[] 61)) w.heap.size 22 61 i0 _ 3 24 Try.underlying22 hi hz0 hz1 hz2 rfl (by decide) _ 0 [] hown (some ad) l.length cap (cellsT l) (by simp) (cellsT_one _) (hr.later hb0) (by unfold maxLen; omega) (by omega) hb0.size
    have E1 := Lib.hid hrun
    clear hrun
    have hb2 : Below w.heap.size w w2 := hb0.trans (grown_below hown hg2 hb0.size)
    have hown3 : w2.ownsRow w.heap.size 61 3 (.slice A' l.length c') l.length (cellsT l) := by
      simpa using hown2
    clear hown hg2 hown2
    go_enter Try.func75, Try.ntmps75
    go_wp2_with (at_builtin; refine wpList_append_eq rfl _ _ 22 rfl _ _ _ w2 rfl rfl E1.out ?_)
    go_ret
    exact ⟨A', c', by simp, hown3, hb2⟩

set_option maxRecDepth 100000 in
theorem isScalable_c (h b : Int) (hh : 0 ≤ h ∧ h ≤ 100) (w : World) : Calls Try.prog 77 #[.int .i64 h, .int .i64 b] w fun e w' => e = .returned (.bool (sclB b h)) ∧ w = w' := by
  by_cases h0 : h = 0
  · subst h0
    go_enter Try.func77, Try.ntmps77
    go_wp2_with (fail)
    go_ret
    exact ⟨rfl, rfl⟩
  · have q0 : (h == 0) = false := by simpa using h0
    by_cases hb : 0 ≤ b
    · have hz : sclB b h = decide (b ≤ 100 / h) := by
        have e : (b ≤ 100 / h) ↔ b * h ≤ 100 := Int.le_ediv_iff_mul_le (by omega)
        rw [sclB, q0, decide_eq_true hb]
        simp [e]
      rw [hz]
      go_enter Try.func77, Try.ntmps77
      go_wp2_with (fail)
      go_ret
      exact ⟨rfl, rfl⟩
    · have hz : sclB b h = false := by simp [sclB, q0, hb]
      rw [hz]
      go_enter Try.func77, Try.ntmps77
      go_wp2_with (fail)
      go_ret
      exact ⟨rfl, rfl⟩

set_option maxRecDepth 100000 in
set_option maxHeartbeats 2000000 in
theorem Scale_c (n : Int) (A : Option Addr) (l : List T3) (c : Nat) (by_ : Int) (w : World) (hlen : l.length ≤ 1000) (hr : Rd w A (cellsT l)) :
    Calls Try.prog 51 #[.int .i64 n, .slice A l.length c, .int .i64 by_] w (OutT 61 (sclG n l by_) (sclE n l by_) w) := by
  have HV := Lib.hid (validate_c n A l c w hlen hr)
  rcases scl_cases3 n l by_ with ⟨h1, h2, h3⟩ | ⟨h1, h2, h3⟩
  · have hv' : (validE n l != 0) = true := by simpa using h1
    rw [h2, h3]
    clear h2 h3
    generalize validE n l = ev at *
    go_enter Try.func51, Try.ntmps51
    go_wp2_with (go_at_call 24; refine HV.out.mono ?_; rintro e w1 ⟨rfl, hb1⟩)
    go_ret2
    exact ⟨none, 0, rfl, World.ownsRow_nil _ _ _ _, hb1⟩
  · have hac := validE_acts h1
    have HC := fun w1 h => Lib.hid (cloneA_c A l c w1 hlen h)
    have H2 := Lib.hid h2
    have H3 := Lib.hid h3
    have HLB := Lib.hid (fun k (h : k ≤ l.length) => @sclTo_len by_ l k h)
    have HLS := Lib.hid (fun k (h : k < l.length) => @sclTo_set by_ l k h)
    have HLG := Lib.hid (fun k (h : k < l.length) => @sclTo_get by_ l k h)
    rw [h1] at HV
    clear h1 h2 h3
    go_enter Try.func51, Try.ntmps51
    go_wp2_with (go_at_call 24; refine HV.out.mono ?_; rintro e w1 ⟨rfl, hb1⟩)
    refine (HC _ (hr.later hb1)).out.mono ?_
    rintro e w2 ⟨A2, c2, rfl, ho2, hb2⟩
    have hb12 := bl_call hb1 hb2
    have ho2 := own_base ho2 hb1.size
    go_wp2_with (fail)
    go_loopg [22] l.length (fun gk iv wr => ∃ k : Nat, Hid (k + gk = l.length) ∧ iv = .int .i64 (k : Int) ∧ Hid (∀ j, j < k → sclB by_ (l.getD j t0).2.2 = true) ∧ wr.ownsRow w.heap.size 61 3 (.slice A2 l.length c2) l.length (cellsT (sclTo by_ l k)) ∧ Below w.heap.size w wr)
    case atStart => exact ⟨0, by simp [Hid], rfl, fun j h => absurd h (by omega), by rw [sclTo_zero]; exact ho2, hb12⟩
    case round =>
      obtain ⟨k, HK, rfl, HP, hown, hb⟩ := hrel
      rcases gk with _ | gi
      · obtain rfl : k = l.length := HK.out
        obtain ⟨e1, e2⟩ := H2.out (sclOk_all HP.out)
        have E1 := Lib.hid e1
        have E2 := Lib.hid e2
        rw [sclTo_end] at hown
        clear e1 e2
        go_wp2_with (fail)
        go_ret2
        exact ⟨A2, c2, by rw [E1.out, E2.out, List.length_map]; rfl, by rw [E2.out, List.length_map]; exact hown, hb⟩
      · have hkl : k < l.length := by have := HK.out; omega
        have hkl' : (k : Int) < (l.length : Int) := by omega
        have hg := hac.get hkl
        have hg0 := hg.h0
        have hg1 := hg.h1
        obtain ⟨g, rfl, hbg, hgl, ⟨c0, c1, c3⟩, c4, hput⟩ := own_putT hown (HLB.out k (by omega)) hkl
        rw [HLG.out k hkl] at hput
        rw [HLG.out k hkl] at c0 c1 c3
        have HW : Hid (sclB by_ (l.getD k t0).2.2 = true → wrap64 ((l.getD k t0).2.2 * by_) = (l.getD k t0).2.2 * by_) := fun h => scl_wrap h hg0
        have HS2 := Lib.hid (HLS.out k hkl)
        have HIS := fun w1 => Lib.hid (isScalable_c (l.getD k t0).2.2 by_ ⟨hg0, hg1⟩ w1)
        have HB := Lib.hid (fun h => H3.out (sclOk_bad (b := by_) hkl h))
        have HG : Hid (sclB by_ (l.getD k t0).2.2 = true → ∀ j, j < k + 1 → sclB by_ (l.getD j t0).2.2 = true) := fun h j hj => by
          rcases Nat.lt_or_ge j k with x | x
          · exact HP.out j x
          · obtain rfl : j = k := by omega
            exact h
        clear hown hg
        generalize l.getD k t0 = x at *
        obtain ⟨x0, x1, x2⟩ := x
        simp only [] at c0 c1 c3 hput HW HIS HB HG hg0 hg1
        have hba := bl_alloc hb (.cells #[.int .i64 x0, .int .i64 x1, .int .i64 x2] 61)
        cases hs : sclB by_ x2 with
        | true =>
          have hw := HW.out hs
          have HX := Lib.hid (HG.out hs)
          have y2 := hput (x2 * by_)
          have HO : Hid ((wr.setCell ⟨g, k * 3 + 2, none⟩ (.int .i64 (x2 * by_))).ownsRow w.heap.size 61 3 (.slice (some ⟨g, 0, none⟩) l.length c2) l.length (cellsT (sclTo by_ l (k + 1)))) := by
            show _
            rw [← HS2.out]; exact y2
          have hbs := bl_set hb (g := g) (i := k * 3 + 2) hbg (.int .i64 (x2 * by_))
          rw [hs] at HIS
          clear hput y2 hs HW HS2
          go_wp2_with (go_at_call 77; refine (HIS _).out.mono ?_; rintro e w3 ⟨rfl, rfl⟩)
          go_roundg gi
          case rel => exact ⟨k + 1, by have := HK.out; show _ = _; omega, by go_num, HX.out, own_call HO.out (bl_alloc (Below.refl _ _) _), bl_alloc hbs _⟩
          case measure => omega
        | false =>
          obtain ⟨e1, e2⟩ := HB.out hs
          have E1 := Lib.hid e1
          have E2 := Lib.hid e2
          rw [hs] at HIS
          clear hput hs HW HS2 e1 e2
          go_wp2_with (go_at_call 77; refine (HIS _).out.mono ?_; rintro e w3 ⟨rfl, rfl⟩)
          go_ret2
          exact ⟨none, 0, by rw [E1.out, E2.out]; rfl, by rw [E2.out]; exact World.ownsRow_nil _ _ _ _, hba⟩
end Go.Proofs.Ytlhnbknilcmleaa
