/- Which gates commute: package circuit's answer and the specification's. -/
import Derived.Test.YteoajadcdjaalaaSame
namespace Go.Proofs.Yteoajadcdjaalaa
open Go.RowKit

def commE (g h : G) : Int := gatesE 4 [g, h]
def commR (g h : G) : Bool := commE g h == 0 && commG g h

set_option maxRecDepth 100000 in
set_option maxHeartbeats 1000000 in
theorem Commute_c (k a b t k' a' b' t' : Int) (w : World) : Calls Try.prog 18 #[.agg #[.int .i64 k, .int .i64 a, .int .i64 b, .int .i64 t], .agg #[.int .i64 k', .int .i64 a', .int .i64 b', .int .i64 t']] w
    fun e w' => e = .returned (.tuple #[.bool (commR (k, a, b, t) (k', a', b', t')), .int .i64 (commE (k, a, b, t) (k', a', b', t'))]) ∧ Below w.heap.size w w' := by
  obtain ⟨w0, hw0⟩ : ∃ w0, w0 = (w.alloc (.cells #[.int .i64 k, .int .i64 a, .int .i64 b, .int .i64 t] 23)).alloc (.cells #[.int .i64 k', .int .i64 a', .int .i64 b', .int .i64 t'] 23) := ⟨_, rfl⟩
  have x0 : Bx w0 w.heap.size 23 #[.int .i64 k, .int .i64 a, .int .i64 b, .int .i64 t] := by rw [hw0]; exact (Bx.new w _ _).alloc _
  have x1 : Bx w0 (w.heap.size + 1) 23 #[.int .i64 k', .int .i64 a', .int .i64 b', .int .i64 t'] := by rw [hw0]; exact Bx.newAt (by simp)
  have hb0 : Below w.heap.size w w0 := by rw [hw0]; exact bl_alloc (bl_alloc (Below.refl w.heap.size w) _) _
  have hsz : w0.heap.size = w.heap.size + 1 + 1 := by rw [hw0]; simp
  have hal : Below w0.heap.size w0 (w0.alloc (.cells #[.int .i64 k, .int .i64 a, .int .i64 b, .int .i64 t, .int .i64 k', .int .i64 a', .int .i64 b', .int .i64 t'] 23)) := bl_alloc (Below.refl _ _) _
  have hrd : Rd (w0.alloc (.cells #[.int .i64 k, .int .i64 a, .int .i64 b, .int .i64 t, .int .i64 k', .int .i64 a', .int .i64 b', .int .i64 t'] 23)) (some ⟨w0.heap.size, 0, none⟩) (cellsG [(k, a, b, t), (k', a', b', t')]) :=
    Bx.rd (cs := [.int .i64 k, .int .i64 a, .int .i64 b, .int .i64 t, .int .i64 k', .int .i64 a', .int .i64 b', .int .i64 t']) (Bx.new w0 23 _)
  have HV := Lib.hid (validateGates_c 4 (some ⟨w0.heap.size, 0, none⟩) [(k, a, b, t), (k', a', b', t')] 2 _ (by simp) hrd)
  have HCc := fun w => Lib.hid (commute_c k a b t k' a' b' t' w)
  have HG : Hid (commG (k, a, b, t) (k', a', b', t') = commB k a b k' a' b') := rfl
  have HE : Hid (commE (k, a, b, t) (k', a', b', t') = gatesE 4 [(k, a, b, t), (k', a', b', t')]) := rfl
  have HR : Hid (commR (k, a, b, t) (k', a', b', t') = (commE (k, a, b, t) (k', a', b', t') == 0 && commG (k, a, b, t) (k', a', b', t'))) := rfl
  rw [HE.out] at HR
  rw [HG.out] at HR
  rw [HE.out]
  generalize gatesE 4 [(k, a, b, t), (k', a', b', t')] = ev at HV HR
  generalize commB k a b k' a' b' = cb at HCc HR
  obtain ⟨i1, i2, i3, i4, _, _, _, _⟩ := x0.four
  obtain ⟨j1, j2, j3, j4, _, _, _, _⟩ := x1.four
  clear HG HE hrd
  by_cases hv : ev = 0
  · subst hv
    have HR2 : Hid (commR (k, a, b, t) (k', a', b', t') = cb) := by show _ = _; rw [HR.out]; simp
    rw [hsz] at HV
    go_enter Try.func18, Try.ntmps18
    go_wp2_with (fail)
    rw [← hw0]
    refine HV.out.mono ?_
    rintro e w1 ⟨rfl, hb1⟩
    have hb1' := bl_call hal hb1
    obtain ⟨p1, p2, p3, p4, _, _, _, _⟩ := (x0.call hb1').four
    obtain ⟨q1, q2, q3, q4, _, _, _, _⟩ := (x1.call hb1').four
    clear i1 i2 i3 i4 j1 j2 j3 j4
    go_wp2_with (fail)
    refine (HCc _).out.mono ?_
    rintro e w2 ⟨rfl, hb2⟩
    go_wp2_with (fail)
    go_ret2
    exact ⟨by rw [HR2.out]; rfl, bl_call (bl_call hb0 hb1') hb2⟩
  · have HR2 : Hid (commR (k, a, b, t) (k', a', b', t') = false) := by show _ = _; rw [HR.out]; simp [hv]
    rw [hsz] at HV
    go_enter Try.func18, Try.ntmps18
    go_wp2_with (fail)
    rw [← hw0]
    refine HV.out.mono ?_
    rintro e w1 ⟨rfl, hb1⟩
    have hb1' := bl_call hal hb1
    clear i1 i2 i3 i4 j1 j2 j3 j4
    go_wp2_with (fail)
    go_ret2
    exact ⟨by rw [HR2.out]; rfl, bl_call hb0 hb1'⟩
end Go.Proofs.Yteoajadcdjaalaa
