/- The gates of two types. -/
import Derived.Test.YteoajadcdjaalaaAngle
namespace Go.Proofs.Yteoajadcdjaalaa
open Go.RowKit

def pairTo (l : List G) (g h : G) : Nat → List G
  | 0 => []
  | k + 1 => if typeG (l.getD k g0) g || typeG (l.getD k g0) h then pairTo l g h k ++ [l.getD k g0] else pairTo l g h k
theorem pairTo_len (l : List G) (g h : G) : ∀ k, (pairTo l g h k).length ≤ k
  | 0 => by simp [pairTo]
  | k + 1 => by
    have := pairTo_len l g h k
    rw [pairTo]; split
    · simp; omega
    · omega
def pairG (n : Int) (l : List G) (g h : G) : List G := if withE n l [g, h] = 0 then pairTo l g h l.length else []

set_option maxRecDepth 100000 in
set_option maxHeartbeats 2000000 in
theorem Pair_c (n : Int) (A : Option Addr) (l : List G) (c : Nat) (k a b t k' a' b' t' : Int) (w : World) (hlen : l.length ≤ 1000) (hr : Rd w A (cellsG l)) :
    Calls Try.prog 50 #[.int .i64 n, .slice A l.length c, .agg #[.int .i64 k, .int .i64 a, .int .i64 b, .int .i64 t], .agg #[.int .i64 k', .int .i64 a', .int .i64 b', .int .i64 t']] w
      (OutG (pairG n l (k, a, b, t) (k', a', b', t')) (withE n l [(k, a, b, t), (k', a', b', t')]) w) := by
  obtain ⟨i0, hi, hz0, hz1, hz2⟩ := info_parts gate_info
  obtain ⟨w0, hw0⟩ : ∃ w0, w0 = (w.alloc (.cells #[.int .i64 k, .int .i64 a, .int .i64 b, .int .i64 t] 23)).alloc (.cells #[.int .i64 k', .int .i64 a', .int .i64 b', .int .i64 t'] 23) := ⟨_, rfl⟩
  have x0 : Bx w0 w.heap.size 23 #[.int .i64 k, .int .i64 a, .int .i64 b, .int .i64 t] := by rw [hw0]; exact (Bx.new w _ _).alloc _
  have y0 : Bx w0 (w.heap.size + 1) 23 #[.int .i64 k', .int .i64 a', .int .i64 b', .int .i64 t'] := by rw [hw0]; exact Bx.newAt (by simp)
  have hb0 : Below w.heap.size w w0 := by rw [hw0]; exact bl_alloc (bl_alloc (Below.refl w.heap.size w) _) _
  have hsz : w0.heap.size = w.heap.size + 1 + 1 := by rw [hw0]; simp
  have hal : Below w0.heap.size w0 (w0.alloc (.cells #[.int .i64 k, .int .i64 a, .int .i64 b, .int .i64 t, .int .i64 k', .int .i64 a', .int .i64 b', .int .i64 t'] 23)) := bl_alloc (Below.refl _ _) _
  have hrd : Rd (w0.alloc (.cells #[.int .i64 k, .int .i64 a, .int .i64 b, .int .i64 t, .int .i64 k', .int .i64 a', .int .i64 b', .int .i64 t'] 23)) (some ⟨w0.heap.size, 0, none⟩) (cellsG [(k, a, b, t), (k', a', b', t')]) :=
    Bx.rd (cs := [.int .i64 k, .int .i64 a, .int .i64 b, .int .i64 t, .int .i64 k', .int .i64 a', .int .i64 b', .int .i64 t']) (Bx.new w0 23 _)
  have HV := Lib.hid (validateWith_c n A (some ⟨w0.heap.size, 0, none⟩) l [(k, a, b, t), (k', a', b', t')] c 2 _ hlen (by simp) ((hr.later hb0).later hal) hrd)
  rw [hsz] at HV
  have HA : Hid (pairG n l (k, a, b, t) (k', a', b', t') = if withE n l [(k, a, b, t), (k', a', b', t')] = 0 then pairTo l (k, a, b, t) (k', a', b', t') l.length else []) := rfl
  have HZ := Lib.hid (fun h => @withE_zero n l [(k, a, b, t), (k', a', b', t')] h)
  generalize withE n l [(k, a, b, t), (k', a', b', t')] = ev at HV HA HZ
  by_cases hv : ev = 0
  · obtain ⟨h10, _, _⟩ := gatesE_ang (HZ.out hv)
    subst hv
    have HA' : pairG n l (k, a, b, t) (k', a', b', t') = pairTo l (k, a, b, t) (k', a', b', t') l.length := by rw [HA.out]; simp
    have HPL := pairTo_len l (k, a, b, t) (k', a', b', t')
    rw [HA']
    clear HA HZ HA'
    go_enter Try.func50, Try.ntmps50
    go_wp2_with (fail)
    rw [← hw0]
    refine HV.out.mono ?_
    rintro e w1 ⟨rfl, hb1⟩
    have hb1' := bl_call hal hb1
    have x1 := x0.call hb1'
    have y1 := y0.call hb1'
    have hb01 := bl_call hb0 hb1'
    have hws : w.heap.size + 1 < w1.heap.size := y1.lt
    go_wp2_with (fail)
    go_loopg [11, 25] l.length (fun gk sv iv wr => ∃ q : Nat, q + gk = l.length ∧ iv = .int .i64 (q : Int) ∧ wr.ownsRow w1.heap.size 23 4 sv (pairTo l (k, a, b, t) (k', a', b', t') q).length (cellsG (pairTo l (k, a, b, t) (k', a', b', t') q)) ∧ Below w1.heap.size w1 wr)
    case atStart => exact ⟨0, by omega, rfl, World.ownsRow_nil _ _ _ _, Below.refl _ _⟩
    case round =>
      obtain ⟨q, hq, rfl, hown, hb1r⟩ := hrel
      have hb := bl_call hb01 hb1r
      obtain ⟨B, d, rfl⟩ := own_form hown
      rcases gk with _ | gi
      · obtain rfl : q = l.length := by omega
        go_wp2_with (fail)
        go_ret2
        exact ⟨B, d, rfl, own_base hown hb01.size, hb⟩
      · have hql : q < l.length := by omega
        have hql' : (q : Int) < (l.length : Int) := by omega
        have hpl := HPL q
        obtain ⟨b1, o1, rfl, hbl, c0, c1, c2, c3⟩ := (hr.later hb).gate hql
        have HX : Hid (pairTo l (k, a, b, t) (k', a', b', t') (q + 1) = if typeG (l.getD q g0) (k, a, b, t) || typeG (l.getD q g0) (k', a', b', t') then pairTo l (k, a, b, t) (k', a', b', t') q ++ [l.getD q g0] else pairTo l (k, a, b, t) (k', a', b', t') q) := rfl
        generalize l.getD q g0 = x at *
        obtain ⟨xk, xa, xb, xt⟩ := x
        simp only [] at c0 c1 c2 c3
        generalize pairTo l (k, a, b, t) (k', a', b', t') q = L at *
        have HTc := fun w => Lib.hid (sameType_c xk xa xb xt k a b t w)
        have HUc := fun w => Lib.hid (sameType_c xk xa xb xt k' a' b' t' w)
        have HT : Hid (typeG (xk, xa, xb, xt) (k, a, b, t) = typeB xk xa xb k a b) := rfl
        have HU : Hid (typeG (xk, xa, xb, xt) (k', a', b', t') = typeB xk xa xb k' a' b') := rfl
        generalize typeB xk xa xb k a b = tb at HT HTc
        generalize typeB xk xa xb k' a' b' = ub at HU HUc
        have hba : Below wr.heap.size wr (wr.alloc (.cells #[.int .i64 xk, .int .i64 xa, .int .i64 xb, .int .i64 xt] 23)) := bl_alloc (Below.refl _ _) _
        have hxr := x1.call hb1r
        have hyr := y1.call hb1r
        have hxa := hxr.call hba
        have hya := hyr.call hba
        have hxn := Bx.new wr 23 #[.int .i64 xk, .int .i64 xa, .int .i64 xb, .int .i64 xt]
        have hlt := hxr.lt
        have hlt2 := hyr.lt
        obtain ⟨d0, d1, d2, d3, _, _, _, _⟩ := hxr.four
        obtain ⟨e0, e1, e2, e3, _, _, _, _⟩ := hyr.four
        have hoa := own_call hown hba
        cases tb with
        | true =>
          go_wp2_with (fail)
          refine (HTc _).out.mono ?_
          rintro e w3 ⟨rfl, hb3⟩
          have HX' : Hid (pairTo l (k, a, b, t) (k', a', b', t') (q + 1) = L ++ [(xk, xa, xb, xt)]) := by show _ = _; rw [HX.out, HT.out]; rfl
          obtain ⟨p0, p1, p2, p3, _, _, _, _⟩ := (hxn.call hb3).four
          have hal3 : Below w3.heap.size w3 (w3.alloc (.cells #[.int .i64 xk, .int .i64 xa, .int .i64 xb, .int .i64 xt] 23)) := bl_alloc (Below.refl _ _) _
          have hrd3 : Rd (w3.alloc (.cells #[.int .i64 xk, .int .i64 xa, .int .i64 xb, .int .i64 xt] 23)) (some ⟨w3.heap.size, 0, none⟩) (cellsG [(xk, xa, xb, xt)]) := Bx.rd (cs := [.int .i64 xk, .int .i64 xa, .int .i64 xb, .int .i64 xt]) (Bx.new w3 23 _)
          have ho3 := own_call (own_call hoa hb3) hal3
          have hb3' : Below w1.heap.size w1 (w3.alloc (.cells #[.int .i64 xk, .int .i64 xa, .int .i64 xb, .int .i64 xt] 23)) := bl_call hb1r (bl_call (bl_call hba hb3) hal3)
          have hs3 : w1.heap.size ≤ (w3.alloc (.cells #[.int .i64 xk, .int .i64 xa, .int .i64 xb, .int .i64 xt] 23)).heap.size := hb3'.size
          clear hown hoa hxr hyr hxa hya hxn d0 d1 d2 d3 e0 e1 e2 e3
          go_wp2_with (at_builtin; refine wpList_append_any rfl _ _ 29 rfl w1.heap.size 23 i0 _ 32 Try.underlying29 hi hz0 hz1 hz2 rfl _ L.length (cellsG L) rfl ho3 (some ⟨w3.heap.size, 0, none⟩) [(xk, xa, xb, xt)] 1 rfl hrd3 (by unfold maxLen; simp; omega) (by simp; omega) hs3 ?_)
          intro A' c' w5 hown5 hg5
          have hb5 := hb3'.trans (grown_below ho3 hg5 hs3)
          have hown6 : Hid (w5.ownsRow w1.heap.size 23 4 (.slice A' (L.length + [(xk, xa, xb, xt)].length) c') (pairTo l (k, a, b, t) (k', a', b', t') (q + 1)).length (cellsG (pairTo l (k, a, b, t) (k', a', b', t') (q + 1)))) := by
            show World.ownsRow _ _ _ _ _ _ _
            rw [HX'.out, cellsG_append, List.length_append]; exact hown5
          clear hown5 hg5 ho3
          go_wp2_with (fail)
          go_roundg gi
          case rel => exact ⟨q + 1, by omega, by go_num, hown6.out, hb5⟩
          case measure => omega
        | false =>
          go_wp2_with (fail)
          refine (HTc _).out.mono ?_
          rintro e w3 ⟨rfl, hb3⟩
          obtain ⟨r0, r1, r2, r3, _, _, _, _⟩ := (hxn.call hb3).four
          obtain ⟨s0, s1, s2, s3, _, _, _, _⟩ := (hya.call hb3).four
          cases ub with
          | true =>
            go_wp2_with (fail)
            refine (HUc _).out.mono ?_
            rintro e w4 ⟨rfl, hb4⟩
            have hb34 := bl_call hb3 hb4
            have HX' : Hid (pairTo l (k, a, b, t) (k', a', b', t') (q + 1) = L ++ [(xk, xa, xb, xt)]) := by show _ = _; rw [HX.out, HT.out, HU.out]; rfl
            clear r0 r1 r2 r3 s0 s1 s2 s3
            obtain ⟨p0, p1, p2, p3, _, _, _, _⟩ := (hxn.call hb34).four
            have hal3 : Below w4.heap.size w4 (w4.alloc (.cells #[.int .i64 xk, .int .i64 xa, .int .i64 xb, .int .i64 xt] 23)) := bl_alloc (Below.refl _ _) _
            have hrd3 : Rd (w4.alloc (.cells #[.int .i64 xk, .int .i64 xa, .int .i64 xb, .int .i64 xt] 23)) (some ⟨w4.heap.size, 0, none⟩) (cellsG [(xk, xa, xb, xt)]) := Bx.rd (cs := [.int .i64 xk, .int .i64 xa, .int .i64 xb, .int .i64 xt]) (Bx.new w4 23 _)
            have ho3 := own_call (own_call hoa hb34) hal3
            have hb3' : Below w1.heap.size w1 (w4.alloc (.cells #[.int .i64 xk, .int .i64 xa, .int .i64 xb, .int .i64 xt] 23)) := bl_call hb1r (bl_call (bl_call hba hb34) hal3)
            have hs3 : w1.heap.size ≤ (w4.alloc (.cells #[.int .i64 xk, .int .i64 xa, .int .i64 xb, .int .i64 xt] 23)).heap.size := hb3'.size
            clear hown hoa hxr hyr hxa hya hxn d0 d1 d2 d3 e0 e1 e2 e3
            go_wp2_with (at_builtin; refine wpList_append_any rfl _ _ 29 rfl w1.heap.size 23 i0 _ 32 Try.underlying29 hi hz0 hz1 hz2 rfl _ L.length (cellsG L) rfl ho3 (some ⟨w4.heap.size, 0, none⟩) [(xk, xa, xb, xt)] 1 rfl hrd3 (by unfold maxLen; simp; omega) (by simp; omega) hs3 ?_)
            intro A' c' w5 hown5 hg5
            have hb5 := hb3'.trans (grown_below ho3 hg5 hs3)
            have hown6 : Hid (w5.ownsRow w1.heap.size 23 4 (.slice A' (L.length + [(xk, xa, xb, xt)].length) c') (pairTo l (k, a, b, t) (k', a', b', t') (q + 1)).length (cellsG (pairTo l (k, a, b, t) (k', a', b', t') (q + 1)))) := by
              show World.ownsRow _ _ _ _ _ _ _
              rw [HX'.out, cellsG_append, List.length_append]; exact hown5
            clear hown5 hg5 ho3
            go_wp2_with (fail)
            go_roundg gi
            case rel => exact ⟨q + 1, by omega, by go_num, hown6.out, hb5⟩
            case measure => omega
          | false =>
            go_wp2_with (fail)
            refine (HUc _).out.mono ?_
            rintro e w4 ⟨rfl, hb4⟩
            have hb34 := bl_call hb3 hb4
            have HX' : Hid (pairTo l (k, a, b, t) (k', a', b', t') (q + 1) = L) := by show _ = _; rw [HX.out, HT.out, HU.out]; rfl
            have ho4 := own_call hoa hb34
            go_wp2_with (fail)
            go_roundg gi
            case rel => exact ⟨q + 1, by omega, by go_num, by rw [HX'.out]; exact ho4, bl_call hb1r (bl_call hba hb34)⟩
            case measure => omega
  · have HA' : pairG n l (k, a, b, t) (k', a', b', t') = [] := by rw [HA.out, if_neg hv]
    rw [HA']
    clear HA HZ HA'
    go_enter Try.func50, Try.ntmps50
    go_wp2_with (fail)
    rw [← hw0]
    refine HV.out.mono ?_
    rintro e w1 ⟨rfl, hb1⟩
    go_wp2_with (fail)
    go_ret2
    exact ⟨none, 0, rfl, World.ownsRow_nil _ _ _ _, bl_call hb0 (bl_call hal hb1)⟩
end Go.Proofs.Yteoajadcdjaalaa
