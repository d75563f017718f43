/- slices.Equal at gates; whether two circuits are alike, or equal, as package circuit answers. -/
import Derived.Test.YteoajadcdjaalaaSame
import Derived.Test.YteoajadcdjaalaaName
namespace Go.Proofs.Yteoajadcdjaalaa
open Go.RowKit

set_option maxRecDepth 100000 in
set_option maxHeartbeats 1000000 in
theorem equal_c (A B : Option Addr) (l m : List G) (c d : Nat) (w : World) (hlen : l.length ≤ 1000) (hr : Rd w A (cellsG l)) (hs : Rd w B (cellsG m)) :
    Calls Try.prog 60 #[.slice A l.length c, .slice B m.length d] w fun e w' => e = .returned (.bool (sameL l m)) ∧ Below w.heap.size w w' := by
  by_cases hl : l.length = m.length
  · have hli : ((l.length : Int) != (m.length : Int)) = false := by simp [hl]
    have HL := Lib.hid hl
    clear hl
    go_enter Try.func60, Try.ntmps60
    go_wp2_with (fail)
    go_loopg [13] l.length (fun gk iv wr => ∃ k : Nat, k + gk = l.length ∧ iv = .int .i64 (k : Int) ∧ Hid (l.take k = m.take k) ∧ Below w.heap.size w wr)
    case atStart => exact ⟨0, by omega, rfl, by simp [Hid], Below.refl _ _⟩
    case round =>
      obtain ⟨k, hk, rfl, hall, hb⟩ := hrel
      rcases gk with _ | gi
      · obtain rfl : k = l.length := by omega
        have HS : Hid (sameL l m = true) := by
          show _ = _
          have h := hall.out
          rw [List.take_length, HL.out, List.take_length] at h
          rw [sameL, h]; simp
        go_wp2_with (fail)
        go_ret
        exact ⟨by rw [HS.out]; rfl, hb⟩
      · have hkl : k < l.length := by omega
        have hkm : k < m.length := by rw [← HL.out]; exact hkl
        have hkl' : (k : Int) < (l.length : Int) := by omega
        have hkm' : (k : Int) < (m.length : Int) := by omega
        obtain ⟨b1, o1, rfl, _, c0, c1, c2, c3⟩ := (hr.later hb).gate hkl
        obtain ⟨b2, o2, rfl, _, d0, d1, d2, d3⟩ := (hs.later hb).gate hkm
        have HX := Lib.hid (sameL_take HL.out hkl)
        have HQ := Lib.hid (eqG_iff (l.getD k g0) (m.getD k g0))
        generalize l.getD k g0 = x at *
        generalize m.getD k g0 = y at *
        obtain ⟨xk, xa, xb, xt⟩ := x
        obtain ⟨yk, ya, yb, yt⟩ := y
        simp only [] at c0 c1 c2 c3 d0 d1 d2 d3
        have HE : Hid (eqG (xk, xa, xb, xt) (yk, ya, yb, yt) = (xk == yk && xa == ya && xb == yb && xt == yt)) := rfl
        have hwr : Below w.heap.size w wr.drew := hb.drew
        cases hq : (xk == yk && xa == ya && xb == yb && xt == yt) with
        | true =>
          rw [hq] at HE
          obtain ⟨⟨⟨h1, h2⟩, h3⟩, h4⟩ : ((xk = yk ∧ xa = ya) ∧ xb = yb) ∧ xt = yt := by simpa using hq
          subst h1 h2 h3 h4
          clear hq
          go_wp2_with (fail)
          go_region
          all_goals
            go_wp2_with (fail)
            go_roundg gi
            case rel => exact ⟨k + 1, by omega, by go_num, HX.out.2 ⟨hall.out, HQ.out.1 HE.out⟩, hwr⟩
            case measure => omega
        | false =>
          rw [hq] at HE
          have HS : Hid (sameL l m = false) := by
            show _ = _
            rw [sameL, decide_eq_false_iff_not]
            intro h
            have h1 := (HX.out.1 (by rw [h])).2
            rw [HQ.out.2 h1] at HE
            exact absurd HE.out (by decide)
          have hc : ¬ xk = yk ∨ (xk = yk ∧ ¬ xa = ya) ∨ (xk = yk ∧ xa = ya ∧ ¬ xb = yb) ∨ (xk = yk ∧ xa = ya ∧ xb = yb ∧ ¬ xt = yt) := by
            by_cases h1 : xk = yk
            · by_cases h2 : xa = ya
              · by_cases h3 : xb = yb
                · by_cases h4 : xt = yt
                  · simp [h1, h2, h3, h4] at hq
                  · exact .inr (.inr (.inr ⟨h1, h2, h3, h4⟩))
                · exact .inr (.inr (.inl ⟨h1, h2, h3⟩))
              · exact .inr (.inl ⟨h1, h2⟩)
            · exact .inl h1
          clear hq HQ HE HX
          rcases hc with h1 | ⟨rfl, h1⟩ | ⟨rfl, rfl, h1⟩ | ⟨rfl, rfl, rfl, h1⟩
          all_goals
            go_wp2_with (fail)
            go_region
          all_goals
            go_wp2_with (fail)
            go_ret
            exact ⟨by rw [HS.out]; rfl, hwr⟩
  · have hli : ((l.length : Int) != (m.length : Int)) = true := by simp; omega
    have HS : Hid (sameL l m = false) := by
      show _ = _
      rw [sameL, decide_eq_false_iff_not]
      intro h; exact hl (by rw [h])
    go_enter Try.func60, Try.ntmps60
    go_wp2_with (fail)
    go_ret
    exact ⟨by rw [HS.out]; rfl, Below.refl _ _⟩

def bothE (n : Int) (l m : List G) : Int := if validE n l = 0 then validE n m else validE n l
theorem validateBoth_c (n : Int) (A B : Option Addr) (l m : List G) (c d : Nat) (w : World) (hlen : l.length ≤ 1000) (hlen' : m.length ≤ 1000) (hr : Rd w A (cellsG l)) (hs : Rd w B (cellsG m)) :
    Calls Try.prog 59 #[.int .i64 n, .slice A l.length c, .slice B m.length d] w fun e w' => e = .returned (.int .i64 (bothE n l m)) ∧ Below w.heap.size w w' := by
  have HV := Lib.hid (validate_c n A l c w hlen hr)
  have HU := fun w1 h => Lib.hid (validate_c n B m d w1 hlen' h)
  have HE : Hid (bothE n l m = if validE n l = 0 then validE n m else validE n l) := rfl
  generalize validE n l = ev at HV HE
  generalize validE n m = eu at HU HE
  by_cases hv : ev = 0
  · subst hv
    have HE' : Hid (bothE n l m = eu) := by show _ = _; rw [HE.out]; simp
    go_enter Try.func59, Try.ntmps59
    go_wp2_with (fail)
    refine HV.out.mono ?_
    rintro e w1 ⟨rfl, hb1⟩
    go_wp2_with (fail)
    refine (HU _ (hs.later hb1)).out.mono ?_
    rintro e w2 ⟨rfl, hb2⟩
    go_wp2_with (fail)
    go_ret
    exact ⟨by rw [HE'.out]; rfl, bl_call hb1 hb2⟩
  · have HE' : Hid (bothE n l m = ev) := by show _ = _; rw [HE.out, if_neg hv]
    go_enter Try.func59, Try.ntmps59
    go_wp2_with (fail)
    refine HV.out.mono ?_
    rintro e w1 ⟨rfl, hb1⟩
    go_wp2_with (fail)
    go_ret
    exact ⟨by rw [HE'.out]; rfl, hb1⟩

def alikeB (n : Int) (l m : List G) : Bool := bothE n l m == 0 && sameL (nameL l) (nameL m)
def equalB (n : Int) (l m : List G) : Bool := bothE n l m == 0 && sameL (reducedL l) (reducedL m)
theorem bothE_zero {n : Int} {l m : List G} (h : bothE n l m = 0) : validE n l = 0 ∧ validE n m = 0 := by
  unfold bothE at h
  split at h
  · exact ⟨by assumption, h⟩
  · contradiction

set_option maxRecDepth 100000 in
theorem Alike_c (n : Int) (A B : Option Addr) (l m : List G) (c d : Nat) (w : World) (hlen : l.length ≤ 1000) (hlen' : m.length ≤ 1000) (hr : Rd w A (cellsG l)) (hs : Rd w B (cellsG m)) :
    Calls Try.prog 22 #[.int .i64 n, .slice A l.length c, .slice B m.length d] w fun e w' => e = .returned (.tuple #[.bool (alikeB n l m), .int .i64 (bothE n l m)]) ∧ Below w.heap.size w w' := by
  have HV := Lib.hid (validateBoth_c n A B l m c d w hlen hlen' hr hs)
  by_cases hv : bothE n l m = 0
  · obtain ⟨h1, h2⟩ := bothE_zero hv
    obtain ⟨h10, _, _⟩ := gatesE_ang h1
    obtain ⟨h20, _, _⟩ := gatesE_ang h2
    have HA : Hid (alikeB n l m = sameL (nameL l) (nameL m)) := by show _ = _; simp [alikeB, hv]
    have HN := fun w1 h => Lib.hid (nameOf_c A l c w1 (by omega) h)
    have HM := fun w1 h => Lib.hid (nameOf_c B m d w1 (by omega) h)
    have HQ : Hid (∀ (A' B' : Option Addr) (c' d' : Nat) (w1 : World), Rd w1 A' (cellsG (nameL l)) → Rd w1 B' (cellsG (nameL m)) → Calls Try.prog 60 #[.slice A' l.length c', .slice B' m.length d'] w1 fun e w' => e = .returned (.bool (sameL (nameL l) (nameL m))) ∧ Below w1.heap.size w1 w') := fun A' B' c' d' w1 h1 h2 => by
      have := equal_c A' B' (nameL l) (nameL m) c' d' w1 (by rw [nameL_len]; omega) h1 h2
      rwa [nameL_len, nameL_len] at this
    rw [hv] at HV
    rw [hv, HA.out]
    generalize sameL (nameL l) (nameL m) = r at HQ
    clear HA
    go_enter Try.func22, Try.ntmps22
    go_wp2_with (fail)
    refine HV.out.mono ?_
    rintro e w1 ⟨rfl, hb1⟩
    go_wp2_with (fail)
    refine (HN _ (hr.later hb1)).out.mono ?_
    rintro e w2 ⟨A2, c2, rfl, ho2, hb2⟩
    have hb12 := bl_call hb1 hb2
    go_wp2_with (fail)
    refine (HM _ (hs.later hb12)).out.mono ?_
    rintro e w3 ⟨A3, c3, rfl, ho3, hb3⟩
    go_wp2_with (fail)
    refine (HQ.out A2 A3 c2 c3 _ ((own_rd ho2).1.later hb3) (own_rd ho3).1).mono ?_
    rintro e w4 ⟨rfl, hb4⟩
    go_wp2_with (fail)
    go_ret2
    exact ⟨rfl, bl_call (bl_call hb12 hb3) hb4⟩
  · have HA : Hid (alikeB n l m = false) := by show _ = _; simp [alikeB, hv]
    generalize bothE n l m = ev at hv HV
    go_enter Try.func22, Try.ntmps22
    go_wp2_with (fail)
    refine HV.out.mono ?_
    rintro e w1 ⟨rfl, hb1⟩
    go_wp2_with (fail)
    go_ret2
    exact ⟨by rw [HA.out]; rfl, hb1⟩
set_option maxRecDepth 100000 in
theorem Equal_c (n : Int) (A B : Option Addr) (l m : List G) (c d : Nat) (w : World) (hlen : l.length ≤ 1000) (hlen' : m.length ≤ 1000) (hr : Rd w A (cellsG l)) (hs : Rd w B (cellsG m)) :
    Calls Try.prog 43 #[.int .i64 n, .slice A l.length c, .slice B m.length d] w fun e w' => e = .returned (.tuple #[.bool (equalB n l m), .int .i64 (bothE n l m)]) ∧ Below w.heap.size w w' := by
  have HV := Lib.hid (validateBoth_c n A B l m c d w hlen hlen' hr hs)
  by_cases hv : bothE n l m = 0
  · obtain ⟨h1, h2⟩ := bothE_zero hv
    obtain ⟨h10, hang, _⟩ := gatesE_ang h1
    obtain ⟨h20, hang', _⟩ := gatesE_ang h2
    have HA : Hid (equalB n l m = sameL (reducedL l) (reducedL m)) := by show _ = _; simp [equalB, hv]
    have HN := fun w1 h => Lib.hid (reduced_c A l c w1 (by omega) hang h)
    have HM := fun w1 h => Lib.hid (reduced_c B m d w1 (by omega) hang' h)
    have HQ : Hid (∀ (A' B' : Option Addr) (c' d' : Nat) (w1 : World), Rd w1 A' (cellsG (reducedL l)) → Rd w1 B' (cellsG (reducedL m)) → Calls Try.prog 60 #[.slice A' (reducedL l).length c', .slice B' (reducedL m).length d'] w1 fun e w' => e = .returned (.bool (sameL (reducedL l) (reducedL m))) ∧ Below w1.heap.size w1 w') := fun A' B' c' d' w1 h1 h2 => equal_c A' B' (reducedL l) (reducedL m) c' d' w1 (by rw [reducedL_len]; have := shortL_len l; omega) h1 h2
    rw [hv] at HV
    rw [hv, HA.out]
    generalize sameL (reducedL l) (reducedL m) = r at HQ
    clear HA
    go_enter Try.func43, Try.ntmps43
    go_wp2_with (fail)
    refine HV.out.mono ?_
    rintro e w1 ⟨rfl, hb1⟩
    go_wp2_with (fail)
    refine (HN _ (hr.later hb1)).out.mono ?_
    rintro e w2 ⟨A2, c2, rfl, ho2, hb2⟩
    have hb12 := bl_call hb1 hb2
    go_wp2_with (fail)
    refine (HM _ (hs.later hb12)).out.mono ?_
    rintro e w3 ⟨A3, c3, rfl, ho3, hb3⟩
    go_wp2_with (fail)
    refine (HQ.out A2 A3 c2 c3 _ ((own_rd ho2).1.later hb3) (own_rd ho3).1).mono ?_
    rintro e w4 ⟨rfl, hb4⟩
    go_wp2_with (fail)
    go_ret2
    exact ⟨rfl, bl_call (bl_call hb12 hb3) hb4⟩
  · have HA : Hid (equalB n l m = false) := by show _ = _; simp [equalB, hv]
    generalize bothE n l m = ev at hv HV
    go_enter Try.func43, Try.ntmps43
    go_wp2_with (fail)
    refine HV.out.mono ?_
    rintro e w1 ⟨rfl, hb1⟩
    go_wp2_with (fail)
    go_ret2
    exact ⟨by rw [HA.out]; rfl, hb1⟩
end Go.Proofs.Yteoajadcdjaalaa
