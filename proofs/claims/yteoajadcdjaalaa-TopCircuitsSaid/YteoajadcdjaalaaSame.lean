/- Gates and lists of gates are compared. -/
import Derived.Test.YteoajadcdjaalaaLow
import Derived.Deep.LoopGhost
namespace Go.Proofs.Yteoajadcdjaalaa
open Go.RowKit

set_option maxRecDepth 100000 in
set_option maxHeartbeats 1000000 in
theorem neq_gates (w : World) (k a b t k' a' b' t' : Int) : (binOp .neq 23 (.agg #[.int .i64 k, .int .i64 a, .int .i64 b, .int .i64 t]) (.agg #[.int .i64 k', .int .i64 a', .int .i64 b', .int .i64 t'])).run Try.prog w =
    .ok (.bool (!(k == k' && a == a' && b == b' && t == t'))) w := by
  by_cases h1 : k = k'
  · by_cases h2 : a = a'
    · by_cases h3 : b = b'
      · by_cases h4 : t = t'
        · go_simp
        · go_simp
      · go_simp
    · go_simp
  · go_simp

set_option maxRecDepth 100000 in
set_option maxHeartbeats 1000000 in
theorem eql_gates (w : World) (k a b t k' a' b' t' : Int) : (binOp .eql 23 (.agg #[.int .i64 k, .int .i64 a, .int .i64 b, .int .i64 t]) (.agg #[.int .i64 k', .int .i64 a', .int .i64 b', .int .i64 t'])).run Try.prog w =
    .ok (.bool (k == k' && a == a' && b == b' && t == t')) w := by
  by_cases h1 : k = k'
  · by_cases h2 : a = a'
    · by_cases h3 : b = b'
      · by_cases h4 : t = t'
        · go_simp
        · go_simp
      · go_simp
    · go_simp
  · go_simp
def eqG (x y : G) : Bool := x.1 == y.1 && x.2.1 == y.2.1 && x.2.2.1 == y.2.2.1 && x.2.2.2 == y.2.2.2
theorem eqG_iff (x y : G) : eqG x y = true ↔ x = y := by
  obtain ⟨a, b, c, d⟩ := x
  obtain ⟨a', b', c', d'⟩ := y
  simp only [eqG, Bool.and_eq_true, beq_iff_eq, Prod.mk.injEq]
  constructor
  · rintro ⟨⟨⟨h1, h2⟩, h3⟩, h4⟩; exact ⟨h1, h2, h3, h4⟩
  · rintro ⟨h1, h2, h3, h4⟩; exact ⟨⟨⟨h1, h2⟩, h3⟩, h4⟩
def sameL (l m : List G) : Bool := decide (l = m)
theorem sameL_take {l m : List G} {k : Nat} (hl : l.length = m.length) (hk : k < l.length) : (l.take (k + 1) = m.take (k + 1)) ↔ (l.take k = m.take k ∧ l.getD k g0 = m.getD k g0) := by
  rw [List.take_succ_eq_append_getElem hk, List.take_succ_eq_append_getElem (by omega)]
  have e1 : l.getD k g0 = l[k] := by simp [hk]
  have e2 : m.getD k g0 = m[k] := by simp [show k < m.length by omega]
  rw [e1, e2]
  constructor
  · intro h
    have := List.append_inj h (by simp; omega)
    exact ⟨this.1, by simpa using this.2⟩
  · rintro ⟨h1, h2⟩; rw [h1, h2]

set_option maxRecDepth 100000 in
set_option maxHeartbeats 1000000 in
theorem same_c (A B : Option Addr) (l m : List G) (c d : Nat) (w : World) (hlen : l.length ≤ 1000) (hr : Rd w A (cellsG l)) (hs : Rd w B (cellsG m)) :
    Calls Try.prog 27 #[.slice A l.length c, .slice B m.length d] w fun e w' => e = .returned (.bool (sameL l m)) ∧ Below w.heap.size w w' := by
  by_cases hl : l.length = m.length
  · have hli : ((l.length : Int) != (m.length : Int)) = false := by simp [hl]
    have HL := Lib.hid hl
    clear hl
    go_enter Try.func27, Try.ntmps27
    go_wp2_with (fail)
    go_loopg [5] l.length (fun gk iv wr => ∃ k : Nat, k + gk = l.length ∧ iv = .int .i64 (k : Int) ∧ Hid (l.take k = m.take k) ∧ Below w.heap.size w wr)
    case atStart => exact ⟨0, by omega, rfl, by simp [Hid], Below.refl _ _⟩
    case round =>
      obtain ⟨k, hk, rfl, hall, hb⟩ := hrel
      rcases gk with _ | gi
      · obtain rfl : k = l.length := by omega
        have HS : Hid (sameL l m = true) := by
          show _ = _
          have h := hall.out
          rw [List.take_length, HL.out, List.take_length] at h
          rw [sameL, h]; simp
        go_wp2_with (fail)
        go_ret
        exact ⟨by rw [HS.out]; rfl, hb⟩
      · have hkl : k < l.length := by omega
        have hkm : k < m.length := by rw [← HL.out]; exact hkl
        have hkl' : (k : Int) < (l.length : Int) := by omega
        have hkm' : (k : Int) < (m.length : Int) := by omega
        obtain ⟨b1, o1, rfl, _, c0, c1, c2, c3⟩ := (hr.later hb).gate hkl
        obtain ⟨b2, o2, rfl, _, d0, d1, d2, d3⟩ := (hs.later hb).gate hkm
        have HX := Lib.hid (sameL_take HL.out hkl)
        have HQ := Lib.hid (eqG_iff (l.getD k g0) (m.getD k g0))
        generalize l.getD k g0 = x at *
        generalize m.getD k g0 = y at *
        obtain ⟨xk, xa, xb, xt⟩ := x
        obtain ⟨yk, ya, yb, yt⟩ := y
        simp only [] at c0 c1 c2 c3 d0 d1 d2 d3
        have HE : Hid (eqG (xk, xa, xb, xt) (yk, ya, yb, yt) = (xk == yk && xa == ya && xb == yb && xt == yt)) := rfl
        have hwr : Below w.heap.size w wr.drew := hb.drew
        cases hq : (xk == yk && xa == ya && xb == yb && xt == yt) with
        | true =>
          rw [hq] at HE
          obtain ⟨⟨⟨h1, h2⟩, h3⟩, h4⟩ : ((xk = yk ∧ xa = ya) ∧ xb = yb) ∧ xt = yt := by simpa using hq
          subst h1 h2 h3 h4
          clear hq
          go_wp2_with (fail)
          go_region
          all_goals
            go_wp2_with (fail)
            go_roundg gi
            case rel => exact ⟨k + 1, by omega, by go_num, HX.out.2 ⟨hall.out, HQ.out.1 HE.out⟩, hwr⟩
            case measure => omega
        | false =>
          rw [hq] at HE
          have HS : Hid (sameL l m = false) := by
            show _ = _
            rw [sameL, decide_eq_false_iff_not]
            intro h
            have h1 := (HX.out.1 (by rw [h])).2
            rw [HQ.out.2 h1] at HE
            exact absurd HE.out (by decide)
          have hc : ¬ xk = yk ∨ (xk = yk ∧ ¬ xa = ya) ∨ (xk = yk ∧ xa = ya ∧ ¬ xb = yb) ∨ (xk = yk ∧ xa = ya ∧ xb = yb ∧ ¬ xt = yt) := by
            by_cases h1 : xk = yk
            · by_cases h2 : xa = ya
              · by_cases h3 : xb = yb
                · by_cases h4 : xt = yt
                  · simp [h1, h2, h3, h4] at hq
                  · exact .inr (.inr (.inr ⟨h1, h2, h3, h4⟩))
                · exact .inr (.inr (.inl ⟨h1, h2, h3⟩))
              · exact .inr (.inl ⟨h1, h2⟩)
            · exact .inl h1
          clear hq HQ HE HX
          rcases hc with h1 | ⟨rfl, h1⟩ | ⟨rfl, rfl, h1⟩ | ⟨rfl, rfl, rfl, h1⟩
          all_goals
            go_wp2_with (fail)
            go_region
          all_goals
            go_wp2_with (fail)
            go_ret
            exact ⟨by rw [HS.out]; rfl, hwr⟩
  · have hli : ((l.length : Int) != (m.length : Int)) = true := by simp; omega
    have HS : Hid (sameL l m = false) := by
      show _ = _
      rw [sameL, decide_eq_false_iff_not]
      intro h; exact hl (by rw [h])
    go_enter Try.func27, Try.ntmps27
    go_wp2_with (fail)
    go_ret
    exact ⟨by rw [HS.out]; rfl, Below.refl _ _⟩
end Go.Proofs.Yteoajadcdjaalaa
