/- Gates that keep their order; the smallest gate that exchanges bring to the next place. -/
import Derived.Test.YteoajadcdjaalaaLow
namespace Go.Proofs.Yteoajadcdjaalaa
open Go.RowKit

def tiedG (x y : G) : Bool := typeG x y || !commG x y
/-- Two gates that are read out of one list. -/
theorem Rd.gates2 {w : World} {A : Option Addr} {l : List G} (h : Rd w A (cellsG l)) {i j : Nat} (hi : i < l.length) (hj : j < l.length) : ∃ b o, A = some ⟨b, o, none⟩ ∧ b < w.heap.size ∧
    (w.cell? ⟨b, o + i * 4, none⟩ = some (.int .i64 (l.getD i g0).1) ∧ w.cell? ⟨b, o + i * 4 + 1, none⟩ = some (.int .i64 (l.getD i g0).2.1) ∧ w.cell? ⟨b, o + i * 4 + 2, none⟩ = some (.int .i64 (l.getD i g0).2.2.1) ∧ w.cell? ⟨b, o + i * 4 + 3, none⟩ = some (.int .i64 (l.getD i g0).2.2.2)) ∧
    (w.cell? ⟨b, o + j * 4, none⟩ = some (.int .i64 (l.getD j g0).1) ∧ w.cell? ⟨b, o + j * 4 + 1, none⟩ = some (.int .i64 (l.getD j g0).2.1) ∧ w.cell? ⟨b, o + j * 4 + 2, none⟩ = some (.int .i64 (l.getD j g0).2.2.1) ∧ w.cell? ⟨b, o + j * 4 + 3, none⟩ = some (.int .i64 (l.getD j g0).2.2.2)) := by
  obtain ⟨b, o, rfl, hb, c0, c1, c2, c3⟩ := h.gate hi
  obtain ⟨b', o', he, _, d0, d1, d2, d3⟩ := h.gate hj
  injection he with he
  injection he with e1 e2
  subst e1 e2
  exact ⟨b, o, rfl, hb, ⟨c0, c1, c2, c3⟩, d0, d1, d2, d3⟩

set_option maxRecDepth 100000 in
set_option maxHeartbeats 2000000 in
theorem tied_c (A : Option Addr) (l : List G) (c i j : Nat) (w : World) (_hlen : l.length ≤ 1000) (hi : i < l.length) (hj : j < l.length) (hr : Rd w A (cellsG l)) :
    Calls Try.prog 95 #[.slice A l.length c, .int .i64 i, .int .i64 j] w fun e w' => e = .returned (.bool (tiedG (l.getD i g0) (l.getD j g0))) ∧ Below w.heap.size w w' := by
  have HT : Hid (tiedG (l.getD i g0) (l.getD j g0) = (typeG (l.getD i g0) (l.getD j g0) || !commG (l.getD i g0) (l.getD j g0))) := rfl
  obtain ⟨b, o, rfl, hbl, ⟨c0, c1, c2, c3⟩, d0, d1, d2, d3⟩ := hr.gates2 hi hj
  have hx : ∃ x, x = l.getD i g0 := ⟨_, rfl⟩
  have hy : ∃ y, y = l.getD j g0 := ⟨_, rfl⟩
  obtain ⟨x, hx⟩ := hx
  obtain ⟨y, hy⟩ := hy
  rw [← hx] at c0 c1 c2 c3 HT
  rw [← hy] at d0 d1 d2 d3 HT
  rw [← hx, ← hy]
  have hR := Lib.hid (fun w1 (hb1 : Below w.heap.size w w1) => (hr.later hb1).gates2 hi hj)
  rw [← hx, ← hy] at hR
  have hG : Hid (∀ w1, Below w.heap.size w w1 →
    (w1.cell? ⟨b, o + i * 4, none⟩ = some (.int .i64 x.1) ∧ w1.cell? ⟨b, o + i * 4 + 1, none⟩ = some (.int .i64 x.2.1) ∧ w1.cell? ⟨b, o + i * 4 + 2, none⟩ = some (.int .i64 x.2.2.1) ∧ w1.cell? ⟨b, o + i * 4 + 3, none⟩ = some (.int .i64 x.2.2.2)) ∧
    (w1.cell? ⟨b, o + j * 4, none⟩ = some (.int .i64 y.1) ∧ w1.cell? ⟨b, o + j * 4 + 1, none⟩ = some (.int .i64 y.2.1) ∧ w1.cell? ⟨b, o + j * 4 + 2, none⟩ = some (.int .i64 y.2.2.1) ∧ w1.cell? ⟨b, o + j * 4 + 3, none⟩ = some (.int .i64 y.2.2.2))) := fun w1 hb1 => by
    obtain ⟨b', o', he, _, h1, h2⟩ := hR.out w1 hb1
    injection he with he
    injection he with e1 e2
    subst e1 e2
    exact ⟨h1, h2⟩
  clear hR hx hy hr
  obtain ⟨xk, xa, xb, xt⟩ := x
  obtain ⟨yk, ya, yb, yt⟩ := y
  simp only [] at c0 c1 c2 c3 d0 d1 d2 d3 hG
  have HA : Hid (typeG (xk, xa, xb, xt) (yk, ya, yb, yt) = typeB xk xa xb yk ya yb) := rfl
  have HC : Hid (commG (xk, xa, xb, xt) (yk, ya, yb, yt) = commB xk xa xb yk ya yb) := rfl
  have HTc := fun w => Lib.hid (sameType_c xk xa xb xt yk ya yb yt w)
  have HCc := fun w => Lib.hid (commute_c xk xa xb xt yk ya yb yt w)
  generalize typeB xk xa xb yk ya yb = tb at HA HTc
  generalize commB xk xa xb yk ya yb = cb at HC HCc
  have hCC : Below w.heap.size w w.drew := (Below.refl _ _).drew
  cases tb with
  | true =>
    go_enter Try.func95, Try.ntmps95
    go_wp2_with (fail)
    refine wp_region_low (hCC) (by kernel_rfl) (by kernel_rfl) ?_
    repeat (first
      | go_big_quiet_skip
      | (go_big_quiet_want
         apply Exists.intro
         refine And.intro (fun W hW => ?_) ?_
         · (obtain ⟨⟨p0, p1, p2, p3⟩, q0, q1, q2, q3⟩ := hG.out W hW)
           go_simp
           first
             | exact rfl
             | ((refine (HTc W).out.mono ?_; rintro e w1 ⟨rfl, hb1⟩; exact ⟨rfl, bl_call hW hb1⟩))
         try go_simp
         go_big_quiet_on))
    refine wpQuiet_nil ?_
    intro w9 hb9
    go_wp2_with (fail)
    go_ret
    exact ⟨by rw [HT.out, HA.out]; rfl, hb9⟩
  | false =>
    go_enter Try.func95, Try.ntmps95
    go_wp2_with (fail)
    refine wp_region_low (hCC) (by kernel_rfl) (by kernel_rfl) ?_
    repeat (first
      | go_big_quiet_skip
      | (go_big_quiet_want
         apply Exists.intro
         refine And.intro (fun W hW => ?_) ?_
         · (obtain ⟨⟨p0, p1, p2, p3⟩, q0, q1, q2, q3⟩ := hG.out W hW)
           go_simp
           first
             | exact rfl
             | (first | (refine (HTc W).out.mono ?_; rintro e w1 ⟨rfl, hb1⟩; exact ⟨rfl, bl_call hW hb1⟩) | (refine (HCc W).out.mono ?_; rintro e w1 ⟨rfl, hb1⟩; exact ⟨rfl, bl_call hW hb1⟩))
         try go_simp
         go_big_quiet_on))
    refine wpQuiet_nil ?_
    intro w9 hb9
    go_wp2_with (fail)
    go_ret
    exact ⟨by rw [HT.out, HA.out, HC.out]; rfl, hb9⟩
end Go.Proofs.Yteoajadcdjaalaa
