/- The sum of the angles of one type. -/
import Derived.Test.YteoajadcdjaalaaAlike
namespace Go.Proofs.Yteoajadcdjaalaa
open Go.RowKit

def withE (n : Int) (l s : List G) : Int := if validE n l = 0 then gatesE n s else validE n l
theorem validateWith_c (n : Int) (A B : Option Addr) (l m : List G) (c d : Nat) (w : World) (hlen : l.length ≤ 1000) (hlen' : m.length ≤ 1000) (hr : Rd w A (cellsG l)) (hs : Rd w B (cellsG m)) :
    Calls Try.prog 77 #[.int .i64 n, .slice A l.length c, .slice B m.length d] w fun e w' => e = .returned (.int .i64 (withE n l m)) ∧ Below w.heap.size w w' := by
  have HV := Lib.hid (validate_c n A l c w hlen hr)
  have HU := fun w1 h => Lib.hid (validateGates_c n B m d w1 hlen' h)
  have HE : Hid (withE n l m = if validE n l = 0 then gatesE n m else validE n l) := rfl
  generalize validE n l = ev at HV HE
  generalize gatesE n m = eu at HU HE
  by_cases hv : ev = 0
  · subst hv
    have HE' : Hid (withE n l m = eu) := by show _ = _; rw [HE.out]; simp
    go_enter Try.func77, Try.ntmps77
    go_wp2_with (fail)
    refine HV.out.mono ?_
    rintro e w1 ⟨rfl, hb1⟩
    go_wp2_with (fail)
    refine (HU _ (hs.later hb1)).out.mono ?_
    rintro e w2 ⟨rfl, hb2⟩
    go_wp2_with (fail)
    go_ret
    exact ⟨by rw [HE'.out]; rfl, bl_call hb1 hb2⟩
  · have HE' : Hid (withE n l m = ev) := by show _ = _; rw [HE.out, if_neg hv]
    go_enter Try.func77, Try.ntmps77
    go_wp2_with (fail)
    refine HV.out.mono ?_
    rintro e w1 ⟨rfl, hb1⟩
    go_wp2_with (fail)
    go_ret
    exact ⟨by rw [HE'.out]; rfl, hb1⟩

def sumTo (l : List G) (g : G) : Nat → Int
  | 0 => 0
  | k + 1 => if typeG (l.getD k g0) g then sumTo l g k + (l.getD k g0).2.2.2 else sumTo l g k
def angleE (n : Int) (l : List G) (g : G) : Int := if withE n l [g] = 0 then sumTo l g l.length % 16 else 0
theorem sumTo_range {l : List G} (g : G) (h : ∀ x ∈ l, Ang x) : ∀ k, k ≤ l.length → 0 ≤ sumTo l g k ∧ sumTo l g k ≤ 15 * k
  | 0, _ => by simp [sumTo]
  | k + 1, hk => by
    have ih := sumTo_range g h k (by omega)
    have ha := h (l.getD k g0) (by simp [show k < l.length by omega])
    unfold Ang at ha
    rw [sumTo]; split <;> omega
theorem withE_zero {n : Int} {l s : List G} (h : withE n l s = 0) : validE n l = 0 := by
  unfold withE at h
  split at h
  · assumption
  · contradiction

set_option maxRecDepth 100000 in
set_option maxHeartbeats 1000000 in
theorem Angle_c (n : Int) (A : Option Addr) (l : List G) (c : Nat) (k a b t : Int) (w : World) (hlen : l.length ≤ 1000) (hr : Rd w A (cellsG l)) :
    Calls Try.prog 45 #[.int .i64 n, .slice A l.length c, .agg #[.int .i64 k, .int .i64 a, .int .i64 b, .int .i64 t]] w fun e w' => e = .returned (.tuple #[.int .i64 (angleE n l (k, a, b, t)), .int .i64 (withE n l [(k, a, b, t)])]) ∧ Below w.heap.size w w' := by
  obtain ⟨w0, hw0⟩ : ∃ w0, w0 = w.alloc (.cells #[.int .i64 k, .int .i64 a, .int .i64 b, .int .i64 t] 23) := ⟨_, rfl⟩
  have x0 : Bx w0 w.heap.size 23 #[.int .i64 k, .int .i64 a, .int .i64 b, .int .i64 t] := by rw [hw0]; exact Bx.new w _ _
  have hb0 : Below w.heap.size w w0 := by rw [hw0]; exact bl_alloc (Below.refl w.heap.size w) _
  have hsz : w0.heap.size = w.heap.size + 1 := by rw [hw0]; simp
  have hal : Below w0.heap.size w0 (w0.alloc (.cells #[.int .i64 k, .int .i64 a, .int .i64 b, .int .i64 t] 23)) := bl_alloc (Below.refl _ _) _
  have hrd : Rd (w0.alloc (.cells #[.int .i64 k, .int .i64 a, .int .i64 b, .int .i64 t] 23)) (some ⟨w0.heap.size, 0, none⟩) (cellsG [(k, a, b, t)]) :=
    Bx.rd (cs := [.int .i64 k, .int .i64 a, .int .i64 b, .int .i64 t]) (Bx.new w0 23 _)
  have HV := Lib.hid (validateWith_c n A (some ⟨w0.heap.size, 0, none⟩) l [(k, a, b, t)] c 1 _ hlen (by simp) ((hr.later hb0).later hal) hrd)
  rw [hsz] at HV
  have HA : Hid (angleE n l (k, a, b, t) = if withE n l [(k, a, b, t)] = 0 then sumTo l (k, a, b, t) l.length % 16 else 0) := rfl
  have HZ := Lib.hid (fun h => @withE_zero n l [(k, a, b, t)] h)
  generalize withE n l [(k, a, b, t)] = ev at HV HA HZ
  by_cases hv : ev = 0
  · obtain ⟨h10, hang, _⟩ := gatesE_ang (HZ.out hv)
    subst hv
    have HA' : Hid (angleE n l (k, a, b, t) = sumTo l (k, a, b, t) l.length % 16) := by show _ = _; rw [HA.out]; simp
    have HRG := sumTo_range (k, a, b, t) hang
    clear HA HZ
    go_enter Try.func45, Try.ntmps45
    go_wp2_with (fail)
    rw [← hw0]
    refine HV.out.mono ?_
    rintro e w1 ⟨rfl, hb1⟩
    have hb1' := bl_call hal hb1
    have x1 := x0.call hb1'
    have hb01 := bl_call hb0 hb1'
    go_wp2_with (fail)
    go_loopg [9, 22] l.length (fun gk sv iv wr => ∃ q : Nat, q + gk = l.length ∧ iv = .int .i64 (q : Int) ∧ sv = .int .i64 (sumTo l (k, a, b, t) q) ∧ Bx wr w.heap.size 23 #[.int .i64 k, .int .i64 a, .int .i64 b, .int .i64 t] ∧ Below w.heap.size w wr)
    case atStart => exact ⟨0, by omega, rfl, rfl, x1, hb01⟩
    case round =>
      obtain ⟨q, hq, rfl, rfl, hxr, hb⟩ := hrel
      have HR1 := HRG q (by omega)
      rcases gk with _ | gi
      · obtain rfl : q = l.length := by omega
        generalize sumTo l (k, a, b, t) l.length = S at *
        go_wp2_with (fail)
        go_ret2
        exact ⟨by rw [HA'.out]; rfl, hb⟩
      · have hql : q < l.length := by omega
        have hql' : (q : Int) < (l.length : Int) := by omega
        obtain ⟨b1, o1, rfl, hbl, c0, c1, c2, c3⟩ := (hr.later hb).gate hql
        have HX : Hid (sumTo l (k, a, b, t) (q + 1) = if typeG (l.getD q g0) (k, a, b, t) then sumTo l (k, a, b, t) q + (l.getD q g0).2.2.2 else sumTo l (k, a, b, t) q) := rfl
        have hax := hang (l.getD q g0) (by simp [hql])
        generalize l.getD q g0 = x at *
        obtain ⟨xk, xa, xb, xt⟩ := x
        obtain ⟨z1, z2⟩ : 1 ≤ xt ∧ xt ≤ 15 := hax
        simp only [] at c0 c1 c2 c3
        generalize sumTo l (k, a, b, t) q = S at *
        have HTc := fun w => Lib.hid (sameType_c xk xa xb xt k a b t w)
        have HT : Hid (typeG (xk, xa, xb, xt) (k, a, b, t) = typeB xk xa xb k a b) := rfl
        generalize typeB xk xa xb k a b = tb at HT HTc
        have hba : Below wr.heap.size wr (wr.alloc (.cells #[.int .i64 xk, .int .i64 xa, .int .i64 xb, .int .i64 xt] 23)) := bl_alloc (Below.refl _ _) _
        have hxa := hxr.call hba
        have hxn := Bx.new wr 23 #[.int .i64 xk, .int .i64 xa, .int .i64 xb, .int .i64 xt]
        have hlt := hxr.lt
        obtain ⟨d0, d1, d2, d3, _, _, _, _⟩ := hxr.four
        cases tb with
        | true =>
          go_wp2_with (fail)
          refine (HTc _).out.mono ?_
          rintro e w3 ⟨rfl, hb3⟩
          obtain ⟨p0, p1, p2, p3, _, _, _, _⟩ := (hxn.call hb3).four
          go_wp2_with (fail)
          go_roundg gi
          case rel => exact ⟨q + 1, by omega, by go_num, by rw [HX.out, HT.out]; rfl, hxa.call hb3, bl_call (bl_call hb hba) hb3⟩
          case measure => omega
        | false =>
          go_wp2_with (fail)
          refine (HTc _).out.mono ?_
          rintro e w3 ⟨rfl, hb3⟩
          go_wp2_with (fail)
          go_roundg gi
          case rel => exact ⟨q + 1, by omega, by go_num, by rw [HX.out, HT.out]; rfl, hxa.call hb3, bl_call (bl_call hb hba) hb3⟩
          case measure => omega
  · have HA' : Hid (angleE n l (k, a, b, t) = 0) := by show _ = _; rw [HA.out, if_neg hv]
    clear HA HZ
    go_enter Try.func45, Try.ntmps45
    go_wp2_with (fail)
    rw [← hw0]
    refine HV.out.mono ?_
    rintro e w1 ⟨rfl, hb1⟩
    go_wp2_with (fail)
    go_ret2
    exact ⟨by rw [HA'.out]; rfl, bl_call hb0 (bl_call hal hb1)⟩
end Go.Proofs.Yteoajadcdjaalaa
