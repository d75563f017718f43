/- The budget with a choice: the document's with. -/
import Derived.Test.YtgbjglkiaoplmaaRdl
namespace Go.Proofs.Ytgbjglkiaoplmaa
open Go.RowKit

set_option maxRecDepth 100000 in
set_option maxHeartbeats 4000000 in
theorem rwith_c (A : Option Addr) (l : List It) (cap : Nat) (B : Option Addr) (fs : List Fx) (cap2 : Nat) (C : Option Addr) (c : List Int) (cap3 : Nat) (w : World) (hv : vfE l fs = 0) (hc : InF fs c) (hlen : c.length ≤ 1000) (hr : Rd w A (cellsI l)) (hf : Rd w B (cellsF fs)) (hk : Rd w C (ints c)) :
    Calls Try.prog 80 #[.slice A l.length cap, .slice B fs.length cap2, .slice C c.length cap3] w fun e w' => ∃ A' c', e = .returned (.tuple #[.slice A' l.length c', .int .i64 (withL l fs c).2]) ∧ w'.ownsRow w.heap.size 50 3 (.slice A' l.length c') l.length (cellsI (withL l fs c).1) ∧ Below w.heap.size w w' := by
  have hl6 := (valE_ok (vfE_ok hv).1).1
  have hf8 := (vfE_ok hv).2.1
  have hXb : Below w.heap.size w (w.alloc (.cells #[] 50)) := bl_alloc (Below.refl _ _) _
  obtain ⟨A', c', w1, hE1, hown, g1⟩ := append_items w.heap.size (w.alloc (.cells #[] 50)) _ [] A l cap (own_emptyI (Nat.le_refl _) (Bx.new w _ _)) (hr.later hXb) (by simp) (by omega) hXb.size
  have hb := hXb.trans g1
  simp only [List.length_nil, Nat.zero_add, List.nil_append] at hE1 hown
  have E1 := Lib.hid hE1
  clear hE1 g1 hXb
  have HA : Hid (withL l fs c = withTo l fs c c.length) := rfl
  have H0 : Hid (withTo l fs c 0 = (l, 0)) := rfl
  have HS : Hid (∀ k, withTo l fs c (k + 1) = ((withTo l fs c k).1.set (itemF fs (c.getD k 0)).toNat ⟨((withTo l fs c k).1.getD (itemF fs (c.getD k 0)).toNat it0).u, (fs.getD (c.getD k 0).toNat fx0).n, (fs.getD (c.getD k 0).toNat fx0).d⟩, (withTo l fs c k).2 + (fs.getD (c.getD k 0).toNat fx0).c)) := fun k => rfl
  have HN := Lib.hid (withTo_len l fs c)
  have HB := Lib.hid (fun k (hk : k ≤ c.length) => (with_bet hv hc k hk).2)
  have HI := Lib.hid (fun k (hk : k < fs.length) => (fixB_iff.1 ((vfE_ok hv).2.2 k hk)).1)
  have HC : Hid (InF fs c) := hc
  clear hv hc
  go_enter Try.func80, Try.ntmps80
  go_wp2_with (at_builtin; refine wpList_append_eq rfl _ _ 22 rfl _ _ _ w1 rfl rfl E1.out ?_)
  go_loopg [9, 10] c.length (fun gk sv iv wr => ∃ k : Nat, Hid (k + gk = c.length) ∧ sv = .int .i64 (withTo l fs c k).2 ∧ iv = .int .i64 (k : Int) ∧ wr.ownsRow w.heap.size 50 3 (.slice A' l.length c') l.length (cellsI (withTo l fs c k).1) ∧ Below w.heap.size w wr)
  case atStart => exact ⟨0, by simp [Hid], by rw [H0.out], rfl, by rw [H0.out]; exact hown, hb⟩
  case round =>
    clear hown hb
    obtain ⟨k, HK, rfl, rfl, hown, hb⟩ := hrel
    rcases gk with _ | gi
    · obtain rfl : k = c.length := HK.out
      go_wp2_with (fail)
      go_ret2
      exact ⟨A', c', by rw [HA.out]; rfl, by rw [HA.out]; exact hown, hb⟩
    · have hkN : k < c.length := by have := HK.out; omega
      have hkN' : (k : Int) < (c.length : Int) := by omega
      obtain ⟨b1, o1, rfl, _, c1⟩ := (hk.later hb).one hkN
      have hxk := HC.out k hkN
      have HSk := Lib.hid (HS.out k)
      have HNk := HN.out k
      have hin := HB.out (k + 1) (by omega)
      rw [HSk.out] at hin
      replace hin : 0 ≤ (withTo l fs c k).2 + (fs.getD (c.getD k 0).toNat fx0).c ∧ (withTo l fs c k).2 + (fs.getD (c.getD k 0).toNat fx0).c ≤ 99 * ((k + 1 : Nat) : Int) := hin
      obtain ⟨y, hy⟩ : ∃ y : Nat, c.getD k 0 = (y : Int) := ⟨(c.getD k 0).toNat, by omega⟩
      have hyN : y < fs.length := by omega
      have hyN' : (y : Int) < (fs.length : Int) := by omega
      obtain ⟨b2, o2, rfl, _, f0, f1, f2, f3⟩ := (hf.later hb).fix hyN
      have hik := HI.out y hyN
      have hit : itemF fs (c.getD k 0) = (fs.getD y fx0).i := by rw [hy]; rfl
      rw [hit, hy, Int.toNat_natCast] at HSk
      rw [hy, Int.toNat_natCast] at hin
      rw [hy] at c1
      clear hxk hit hy
      generalize withTo l fs c k = s at *
      generalize hsn : withTo l fs c (k + 1) = sn at *
      have HSN : Hid (withTo l fs c (k + 1) = sn) := hsn
      clear hsn
      obtain ⟨i, hii⟩ : ∃ i : Nat, (fs.getD y fx0).i = (i : Int) := ⟨((fs.getD y fx0).i).toNat, by omega⟩
      rw [hii] at f0 HSk hik
      rw [Int.toNat_natCast] at HSk
      have hiN : i < l.length := by omega
      have hiN' : (i : Int) < (l.length : Int) := by omega
      clear hii hik
      generalize (fs.getD y fx0).n = fn at *
      generalize (fs.getD y fx0).d = fd at *
      generalize (fs.getD y fx0).c = fc at *
      have e : wrap64 (s.2 + fc) = s.2 + fc := IntWalk.wrap64_in _ ⟨by omega, by omega⟩
      obtain ⟨g, rfl, hg1, hg2, ⟨hz1, hz2⟩, ⟨r0, r1, r2⟩, hput⟩ := own_putI hown HNk hiN
      have HP := Lib.hid (hput fn fd)
      clear hin hput hown HNk
      go_wp2_with (fail)
      go_roundg gi
      case rel =>
        refine ⟨k + 1, by have := HK.out; show _ = _; omega, ?_, by go_num, ?_, ?_⟩
        · rw [HSN.out, HSk.out]; first | rfl | rw [e]
        · rw [HSN.out, HSk.out]; exact HP.out.alloc _
        · exact bl_alloc (bl_set (bl_set hb hg1 _) hg1 _) _
      case measure => omega
end Go.Proofs.Ytgbjglkiaoplmaa
