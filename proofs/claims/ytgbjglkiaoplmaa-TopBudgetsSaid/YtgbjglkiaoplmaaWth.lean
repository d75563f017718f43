/- The budget with a choice: slices.Clone at items, package budget's with. -/
import Derived.Test.YtgbjglkiaoplmaaTwo
import Derived.Laws.OwnMore
namespace Go.Proofs.Ytgbjglkiaoplmaa
open Go.RowKit

theorem cellsI_set : ∀ (M : List It) (k : Nat) (x y : Int), ((cellsI M).set (k * 3 + 1) (.int .i64 x)).set (k * 3 + 2) (.int .i64 y) = cellsI (M.set k ⟨(M.getD k it0).u, x, y⟩)
  | [], k, x, y => by simp [cellsI]
  | a :: t, 0, x, y => rfl
  | a :: t, k + 1, x, y => by
    have ih := cellsI_set t k x y
    have e : (k + 1) * 3 + 2 = k * 3 + 2 + 1 + 1 + 1 := by omega
    have e' : (k + 1) * 3 + 1 = k * 3 + 1 + 1 + 1 + 1 := by omega
    show (([Value.int .i64 a.u, .int .i64 a.n, .int .i64 a.d] ++ cellsI t).set ((k + 1) * 3 + 1) _).set ((k + 1) * 3 + 2) _ = _
    rw [e, e']
    show Value.int .i64 a.u :: .int .i64 a.n :: .int .i64 a.d :: ((cellsI t).set (k * 3 + 1) (.int .i64 x)).set (k * 3 + 2) (.int .i64 y) = _
    rw [ih]
    rfl
theorem own_putI {w : World} {base c k n : Nat} {T : TypeId} {A : Option Addr} {M : List It} (h : w.ownsRow base T 3 (.slice A n c) n (cellsI M)) (hn : M.length = n) (hk : k < n) :
    ∃ g, A = some ⟨g, 0, none⟩ ∧ base ≤ g ∧ g < w.heap.size ∧ (w.frozen? ⟨g, k * 3 + 1, none⟩ = false ∧ w.frozen? ⟨g, k * 3 + 2, none⟩ = false) ∧ (w.cell? ⟨g, k * 3, none⟩ = some (.int .i64 (M.getD k it0).u) ∧ w.cell? ⟨g, k * 3 + 1, none⟩ = some (.int .i64 (M.getD k it0).n) ∧ w.cell? ⟨g, k * 3 + 2, none⟩ = some (.int .i64 (M.getD k it0).d)) ∧
      ∀ x y, ((w.setCell ⟨g, k * 3 + 1, none⟩ (.int .i64 x)).setCell ⟨g, k * 3 + 2, none⟩ (.int .i64 y)).ownsRow base T 3 (.slice A n c) n (cellsI (M.set k ⟨(M.getD k it0).u, x, y⟩)) := by
  have h' := h
  rcases h'.2 with ⟨he, _⟩ | ⟨g, cap, cur, hv, hb, hg, _⟩
  · simp at he; omega
  · simp only [Value.slice.injEq] at hv
    obtain ⟨rfl, _, rfl⟩ := hv
    have hgl : g < w.heap.size := (Array.getElem?_eq_some_iff.1 hg).1
    refine ⟨g, rfl, hb, hgl, ⟨h.frozenAt _, h.frozenAt _⟩, ?_, fun x y => ?_⟩
    · obtain ⟨b, o, he, _, h0, h1, h2⟩ := (own_rd h).1.itm (k := k) (by omega)
      injection he with he
      injection he with e1 e2
      subst e1 e2
      rw [Nat.zero_add] at h0 h1 h2
      exact ⟨h0, h1, h2⟩
    · rw [← cellsI_set]
      exact ((h.stored _ _).1.stored _ _).1
set_option maxRecDepth 100000 in
theorem cloneI_c (A : Option Addr) (l : List It) (cap : Nat) (w : World) (hlen : l.length ≤ 1000) (hr : Rd w A (cellsI l)) :
    Calls Try.prog 97 #[.slice A l.length cap] w fun e w' => ∃ A' c', e = .returned (.slice A' l.length c') ∧ w'.ownsRow w.heap.size 50 3 (.slice A' l.length c') l.length (cellsI l) ∧ Below w.heap.size w w' := by
  obtain ⟨i0, hi, hz0, hz1, hz2⟩ := info_parts item_info
  have qT : ∀ (w : World) (a : Option Addr) (n c n' c' : Nat), (binOp .eql 22 (.slice a n c) (.slice none n' c')).run Try.prog w = .ok (.bool a.isNone) w := fun w a n c n' c' => Lib.run_eql_slice_nil w _ _ a n c n' c' Try.underlying22
  cases A with
  | none =>
    have h0 : l = [] := by
      rcases hr with h | ⟨_, _, h, _⟩
      · have := congrArg List.length h; rw [cellsI_length] at this; exact List.length_eq_zero_iff.1 (by simp at this; omega)
      · cases h
    subst h0
    go_enter Try.func97, Try.ntmps97
    go_wp2_with (fail)
    go_ret
    exact ⟨none, 0, rfl, World.ownsRow_nil _ _ _ _, Below.refl _ _⟩
  | some ad =>
    have hown := World.ownsRow_made (e := 50) (size := 3) w #[] 0 (Nat.le_refl _) (by decide) rfl
    have hb0 : Below w.heap.size w (w.alloc (.cells #[] 50)) := bl_alloc (Below.refl _ _) _
    obtain ⟨A', c', w2, hrun, hown2, hg2⟩ := run_append_rows (P := Try.prog) (w.alloc (.cells #[] 50)) w.heap.size 22 50 i0 _ 3 24 Try.underlying22 hi hz0 hz1 hz2 rfl (by decide) _ 0 [] hown (some ad) l.length cap (cellsI l) (by simp) (cellsI_one _) (hr.later hb0) (by unfold maxLen; omega) (by omega) hb0.size
    have E1 := Lib.hid hrun
    clear hrun
    have hb2 : Below w.heap.size w w2 := hb0.trans (grown_below hown hg2 hb0.size)
    have hown3 : w2.ownsRow w.heap.size 50 3 (.slice A' l.length c') l.length (cellsI l) := by
      simpa using hown2
    clear hown hg2 hown2
    go_enter Try.func97, Try.ntmps97
    go_wp2_with (at_builtin; refine wpList_append_eq rfl _ _ 22 rfl _ _ _ w2 rfl rfl E1.out ?_)
    go_ret
    exact ⟨A', c', by simp, hown3, hb2⟩
set_option maxRecDepth 100000 in
set_option maxHeartbeats 2000000 in
theorem with_c (A : Option Addr) (l : List It) (cap : Nat) (B : Option Addr) (fs : List Fx) (cap2 : Nat) (C : Option Addr) (c : List Int) (cap3 : Nat) (w : World) (hv : vfE l fs = 0) (hc : InF fs c) (hlen : c.length ≤ 1000) (hr : Rd w A (cellsI l)) (hf : Rd w B (cellsF fs)) (hk : Rd w C (ints c)) :
    Calls Try.prog 78 #[.slice A l.length cap, .slice B fs.length cap2, .slice C c.length cap3] w fun e w' => ∃ A' c', e = .returned (.tuple #[.slice A' l.length c', .int .i64 (withL l fs c).2]) ∧ w'.ownsRow w.heap.size 50 3 (.slice A' l.length c') l.length (cellsI (withL l fs c).1) ∧ Below w.heap.size w w' := by
  have hl6 := (valE_ok (vfE_ok hv).1).1
  have hf8 := (vfE_ok hv).2.1
  have HCl := Lib.hid (cloneI_c A l cap w (by omega) hr)
  have HA : Hid (withL l fs c = withTo l fs c c.length) := rfl
  have H0 : Hid (withTo l fs c 0 = (l, 0)) := rfl
  have HS : Hid (∀ k, withTo l fs c (k + 1) = ((withTo l fs c k).1.set (itemF fs (c.getD k 0)).toNat ⟨((withTo l fs c k).1.getD (itemF fs (c.getD k 0)).toNat it0).u, (fs.getD (c.getD k 0).toNat fx0).n, (fs.getD (c.getD k 0).toNat fx0).d⟩, (withTo l fs c k).2 + (fs.getD (c.getD k 0).toNat fx0).c)) := fun k => rfl
  have HN := Lib.hid (withTo_len l fs c)
  have HB := Lib.hid (fun k (hk : k ≤ c.length) => (with_bet hv hc k hk).2)
  have HI := Lib.hid (fun k (hk : k < fs.length) => (fixB_iff.1 ((vfE_ok hv).2.2 k hk)).1)
  have HC : Hid (InF fs c) := hc
  clear hv hc
  go_enter Try.func78, Try.ntmps78
  go_wp2_with (fail)
  refine HCl.out.mono ?_
  rintro e w1 ⟨A', c', rfl, hown, hb⟩
  clear HCl
  go_wp2_with (fail)
  go_loopg [9, 17] c.length (fun gk sv iv wr => ∃ k : Nat, Hid (k + gk = c.length) ∧ sv = .int .i64 (withTo l fs c k).2 ∧ iv = .int .i64 (k : Int) ∧ wr.ownsRow w.heap.size 50 3 (.slice A' l.length c') l.length (cellsI (withTo l fs c k).1) ∧ Below w.heap.size w wr)
  case atStart => exact ⟨0, by simp [Hid], by rw [H0.out], rfl, by rw [H0.out]; exact hown, hb⟩
  case round =>
    clear hown hb
    obtain ⟨k, HK, rfl, rfl, hown, hb⟩ := hrel
    rcases gk with _ | gi
    · obtain rfl : k = c.length := HK.out
      go_wp2_with (fail)
      go_ret2
      exact ⟨A', c', by rw [HA.out]; rfl, by rw [HA.out]; exact hown, hb⟩
    · have hkN : k < c.length := by have := HK.out; omega
      have hkN' : (k : Int) < (c.length : Int) := by omega
      obtain ⟨b1, o1, rfl, _, c1⟩ := (hk.later hb).one hkN
      have hxk := HC.out k hkN
      have HSk := Lib.hid (HS.out k)
      have HNk := HN.out k
      have hin := HB.out (k + 1) (by omega)
      rw [HSk.out] at hin
      replace hin : 0 ≤ (withTo l fs c k).2 + (fs.getD (c.getD k 0).toNat fx0).c ∧ (withTo l fs c k).2 + (fs.getD (c.getD k 0).toNat fx0).c ≤ 99 * ((k + 1 : Nat) : Int) := hin
      obtain ⟨y, hy⟩ : ∃ y : Nat, c.getD k 0 = (y : Int) := ⟨(c.getD k 0).toNat, by omega⟩
      have hyN : y < fs.length := by omega
      have hyN' : (y : Int) < (fs.length : Int) := by omega
      obtain ⟨b2, o2, rfl, _, f0, f1, f2, f3⟩ := (hf.later hb).fix hyN
      have hik := HI.out y hyN
      have hit : itemF fs (c.getD k 0) = (fs.getD y fx0).i := by rw [hy]; rfl
      rw [hit, hy, Int.toNat_natCast] at HSk
      rw [hy, Int.toNat_natCast] at hin
      rw [hy] at c1
      clear hxk hit hy
      generalize withTo l fs c k = s at *
      generalize hsn : withTo l fs c (k + 1) = sn at *
      have HSN : Hid (withTo l fs c (k + 1) = sn) := hsn
      clear hsn
      obtain ⟨i, hii⟩ : ∃ i : Nat, (fs.getD y fx0).i = (i : Int) := ⟨((fs.getD y fx0).i).toNat, by omega⟩
      rw [hii] at f0 HSk hik
      rw [Int.toNat_natCast] at HSk
      have hiN : i < l.length := by omega
      have hiN' : (i : Int) < (l.length : Int) := by omega
      clear hii hik
      generalize (fs.getD y fx0).n = fn at *
      generalize (fs.getD y fx0).d = fd at *
      generalize (fs.getD y fx0).c = fc at *
      have e : wrap64 (s.2 + fc) = s.2 + fc := IntWalk.wrap64_in _ ⟨by omega, by omega⟩
      obtain ⟨g, rfl, hg1, hg2, ⟨hz1, hz2⟩, ⟨r0, r1, r2⟩, hput⟩ := own_putI hown HNk hiN
      have HP := Lib.hid (hput fn fd)
      clear hin hput hown HNk
      go_wp2_with (fail)
      go_roundg gi
      case rel =>
        refine ⟨k + 1, by have := HK.out; show _ = _; omega, ?_, by go_num, ?_, ?_⟩
        · rw [HSN.out, HSk.out]; first | rfl | rw [e]
        · rw [HSN.out, HSk.out]; exact HP.out.alloc _
        · exact bl_alloc (bl_set (bl_set hb hg1 _) hg1 _) _
      case measure => omega
end Go.Proofs.Ytgbjglkiaoplmaa
