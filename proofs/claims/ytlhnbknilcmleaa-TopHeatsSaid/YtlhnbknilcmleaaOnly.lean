/- Equal plans; the acts of one ion. -/
import Derived.Test.YtlhnbknilcmleaaFew
namespace Go.Proofs.Ytlhnbknilcmleaa
open Go.RowKit

theorem takeT_same {p q : List T3} {k : Nat} (hp : k < p.length) (hq : k < q.length) (h : p.take k = q.take k) (he : p.getD k t0 = q.getD k t0) : p.take (k + 1) = q.take (k + 1) := by
  rw [List.take_succ_eq_append_getElem hp, List.take_succ_eq_append_getElem hq, h]
  simp [hp, hq] at he
  rw [he]
theorem notT_same {p q : List T3} {k : Nat} (he : p.getD k t0 ≠ q.getD k t0) : decide (p = q) = false := by
  simp only [decide_eq_false_iff_not]
  rintro rfl
  exact he rfl
/-- How two acts compare. -/
theorem three_cases (a b c a' b' c' : Int) : (a ≠ a') ∨ (a = a' ∧ b ≠ b') ∨ (a = a' ∧ b = b' ∧ c ≠ c') ∨ (a = a' ∧ b = b' ∧ c = c') := by omega

set_option maxRecDepth 100000 in
set_option maxHeartbeats 2000000 in
theorem same_c (A B : Option Addr) (p q : List T3) (cap cap' : Nat) (w : World) (hlen : p.length ≤ 100000) (hr : Rd w A (cellsT p)) (hq : Rd w B (cellsT q)) :
    Calls Try.prog 46 #[.slice A p.length cap, .slice B q.length cap'] w fun e w' => e = .returned (.bool (decide (p = q))) ∧ Below w.heap.size w w' := by
  by_cases hl : p.length = q.length
  · have hne : ((p.length : Int) != (q.length : Int)) = false := by simp [hl]
    have HL := Lib.hid hl
    clear hl
    go_enter Try.func46, Try.ntmps46
    go_wp2_with (fail)
    go_loopg [5] p.length (fun gk iv wr => ∃ k : Nat, Hid (k + gk = p.length) ∧ iv = .int .i64 (k : Int) ∧ Hid (p.take k = q.take k) ∧ Below w.heap.size w wr)
    case atStart => exact ⟨0, by simp [Hid], rfl, by simp [Hid], Below.refl _ _⟩
    case round =>
      obtain ⟨k, HK, rfl, HT, hb⟩ := hrel
      rcases gk with _ | gi
      · obtain rfl : k = p.length := HK.out
        have HS : Hid (decide (p = q) = true) := by
          have h := HT.out
          rw [List.take_length, HL.out, List.take_length] at h
          exact decide_eq_true h
        go_wp2_with (fail)
        go_ret
        exact ⟨by rw [HS.out]; rfl, hb⟩
      · have hkp : k < p.length := by have := HK.out; omega
        have hkq : k < q.length := by have := HL.out; omega
        have hkp' : (k : Int) < (p.length : Int) := by omega
        have hkq' : (k : Int) < (q.length : Int) := by omega
        obtain ⟨b1, o1, rfl, _, f0, f1, f2⟩ := (hr.later hb).tri hkp
        obtain ⟨b2, o2, rfl, _, g0, g1, g2⟩ := (hq.later hb).tri hkq
        have HX1 := Lib.hid (takeT_same hkp hkq HT.out)
        have HX2 := Lib.hid (@notT_same p q k)
        generalize p.getD k t0 = x at *
        generalize q.getD k t0 = y at *
        obtain ⟨x0, x1, x2⟩ := x
        obtain ⟨y0, y1, y2⟩ := y
        simp only [] at f0 f1 f2 g0 g1 g2
        rcases three_cases x0 x1 x2 y0 y1 y2 with h0 | ⟨rfl, h0⟩ | ⟨rfl, rfl, h0⟩ | ⟨rfl, rfl, rfl⟩
        · have HD : Hid (decide (p = q) = false) := HX2.out (by intro e; injection e with e _; exact h0 e)
          go_wp2_with (fail)
          go_quiet (fail)
          go_wp2_with (fail)
          go_ret
          exact ⟨by rw [HD.out]; rfl, below_drewN hb _⟩
        · have HD : Hid (decide (p = q) = false) := HX2.out (by intro e; injection e with _ e; injection e with e _; exact h0 e)
          go_wp2_with (fail)
          go_quiet (fail)
          go_wp2_with (fail)
          go_ret
          exact ⟨by rw [HD.out]; rfl, below_drewN hb _⟩
        · have HD : Hid (decide (p = q) = false) := HX2.out (by intro e; injection e with _ e; injection e with _ e; exact h0 e)
          go_wp2_with (fail)
          go_quiet (fail)
          go_wp2_with (fail)
          go_ret
          exact ⟨by rw [HD.out]; rfl, below_drewN hb _⟩
        · have HN := Lib.hid (HX1.out rfl)
          go_wp2_with (fail)
          go_quiet (fail)
          go_wp2_with (fail)
          go_roundg gi
          case rel => exact ⟨k + 1, by have := HK.out; show _ = _; omega, by go_num, HN, below_drewN hb _⟩
          case measure => omega
  · have hne : ((p.length : Int) != (q.length : Int)) = true := by simp; omega
    have hd : decide (p = q) = false := by simp only [decide_eq_false_iff_not]; rintro rfl; exact hl rfl
    go_enter Try.func46, Try.ntmps46
    go_wp2_with (fail)
    go_ret
    exact ⟨ret_b hd, Below.refl _ _⟩

/-- The acts of one ion. -/
def onlyL (l : List T3) (ion : Int) : List T3 := l.filter fun a => a.2.1 == ion
def onlyE (n : Int) (l : List T3) (ion : Int) : Int := if validE n l = 0 then (if oneB ion n then 0 else 4) else validE n l
def onlyG (n : Int) (l : List T3) (ion : Int) : List T3 := if onlyE n l ion = 0 then onlyL l ion else []
theorem only_succ {l : List T3} {k : Nat} (ion : Int) (h : k < l.length) : onlyL (l.take (k + 1)) ion = if (l.getD k t0).2.1 = ion then onlyL (l.take k) ion ++ [l.getD k t0] else onlyL (l.take k) ion := by
  rw [List.take_succ_eq_append_getElem h]
  have e : l[k] = l.getD k t0 := by simp [h]
  rw [onlyL, List.filter_append, e]
  generalize l.getD k t0 = a
  clear e
  by_cases hi : a.2.1 = ion
  · rw [if_pos hi]; simp [onlyL, hi]
  · rw [if_neg hi]; simp [onlyL, hi]
theorem only_len (l : List T3) (ion : Int) : (onlyL l ion).length ≤ l.length := List.length_filter_le _ _
theorem onlyE_cases (n : Int) (l : List T3) (ion : Int) : (validE n l ≠ 0 ∧ onlyE n l ion = validE n l ∧ onlyG n l ion = []) ∨ (validE n l = 0 ∧ oneB ion n = false ∧ onlyE n l ion = 4 ∧ onlyG n l ion = []) ∨ (validE n l = 0 ∧ oneB ion n = true ∧ onlyE n l ion = 0 ∧ onlyG n l ion = onlyL l ion) := by
  by_cases hv : validE n l = 0
  · cases ho : oneB ion n with
    | false =>
      have e : onlyE n l ion = 4 := by rw [onlyE, if_pos hv, ho]; rfl
      exact .inr (.inl ⟨hv, rfl, e, by rw [onlyG, e]; rfl⟩)
    | true =>
      have e : onlyE n l ion = 0 := by rw [onlyE, if_pos hv, ho]; rfl
      exact .inr (.inr ⟨hv, rfl, e, by rw [onlyG, if_pos e]⟩)
  · have e : onlyE n l ion = validE n l := by rw [onlyE, if_neg hv]
    exact .inl ⟨hv, e, by rw [onlyG, e, if_neg hv]⟩

set_option maxRecDepth 100000 in
set_option maxHeartbeats 2000000 in
theorem Only_c (n : Int) (A : Option Addr) (l : List T3) (c : Nat) (ion : Int) (w : World) (hlen : l.length ≤ 1000) (hr : Rd w A (cellsT l)) :
    Calls Try.prog 44 #[.int .i64 n, .slice A l.length c, .int .i64 ion] w (OutT 61 (onlyG n l ion) (onlyE n l ion) w) := by
  have HV := Lib.hid (validate_c n A l c w hlen hr)
  have HO := fun w => Lib.hid (isOneOf_c ion n w)
  rcases onlyE_cases n l ion with ⟨h1, h2, h3⟩ | ⟨h1, h2, h3, h4⟩ | ⟨h1, h2, h3, h4⟩
  · have hv' : (validE n l != 0) = true := by simpa using h1
    rw [h2, h3]
    clear h2 h3
    generalize validE n l = ev at *
    go_enter Try.func44, Try.ntmps44
    go_wp2_with (go_at_call 24; refine HV.out.mono ?_; rintro e w1 ⟨rfl, hb1⟩)
    go_ret2
    exact ⟨none, 0, rfl, World.ownsRow_nil _ _ _ _, hb1⟩
  · rw [h1] at HV
    rw [h2] at HO
    rw [h3, h4]
    clear h1 h2 h3 h4
    go_enter Try.func44, Try.ntmps44
    go_wp2_with (first | (go_at_call 24; refine HV.out.mono ?_; rintro e w1 ⟨rfl, hb1⟩) | (go_at_call 69; refine (HO _).out.mono ?_; rintro e w2 ⟨rfl, rfl⟩))
    go_ret2
    exact ⟨none, 0, rfl, World.ownsRow_nil _ _ _ _, hb1⟩
  · rw [h1] at HV
    rw [h2] at HO
    rw [h3, h4]
    clear h1 h2 h3 h4
    have HL := only_len
    go_enter Try.func44, Try.ntmps44
    go_wp2_with (first | (go_at_call 24; refine HV.out.mono ?_; rintro e w1 ⟨rfl, hb1⟩) | (go_at_call 69; refine (HO _).out.mono ?_; rintro e w2 ⟨rfl, rfl⟩))
    go_loopg [9, 24] l.length (fun gk v iv wr => ∃ k : Nat, Hid (k + gk = l.length) ∧ iv = .int .i64 (k : Int) ∧ wr.ownsRow w.heap.size 61 3 v (onlyL (l.take k) ion).length (cellsT (onlyL (l.take k) ion)) ∧ Below w.heap.size w wr)
    case atStart => exact ⟨0, by simp [Hid], rfl, World.ownsRow_nil _ _ _ _, hb1⟩
    case round =>
      obtain ⟨k, HK, rfl, hown, hb⟩ := hrel
      rcases gk with _ | gi
      · obtain rfl : k = l.length := HK.out
        obtain ⟨A', c', rfl⟩ := own_form hown
        rw [List.take_length] at hown
        have hte : Hid (l.take l.length = l) := List.take_length
        rw [hte.out]
        go_wp2_with (fail)
        go_ret2
        exact ⟨A', c', rfl, hown, hb⟩
      · have hkl : k < l.length := by have := HK.out; omega
        have hkl' : (k : Int) < (l.length : Int) := by omega
        obtain ⟨b, o, rfl, _, c0, c1, c2⟩ := (hr.later hb).tri hkl
        have HN := Lib.hid (only_succ ion hkl)
        have hfl := HL (l.take k) ion
        rw [List.length_take] at hfl
        have hfl2 : (onlyL (l.take k) ion).length ≤ 1000 := by omega
        clear hfl
        generalize l.getD k t0 = g at c0 c1 c2 HN
        generalize onlyL (l.take k) ion = L at hown HN hfl2
        obtain ⟨g0, g1, g2⟩ := g
        simp only [] at c0 c1 c2 HN
        have hba := bl_alloc hb (.cells #[.int .i64 g0, .int .i64 g1, .int .i64 g2] 61)
        by_cases hi : g1 = ion
        · have HX : Hid (onlyL (l.take (k + 1)) ion = L ++ [(g0, g1, g2)]) := by show _ = _; rw [HN.out, if_pos hi]
          have q1 : (g1 == ion) = true := by simpa using hi
          obtain ⟨A3, c3, W3, E3, ho3, hb3, _⟩ := append_three w.heap.size 22 61 act_info Try.underlying22 _ u9 L (g0, g1, g2) (own_call hown (bl_alloc (Below.refl wr.heap.size wr) (.cells #[.int .i64 g0, .int .i64 g1, .int .i64 g2] 61))) (by omega) hba.size
          simp only [World.size_alloc] at E3
          have HE3 := Lib.hid E3
          clear E3 hi
          go_wp2_with (at_builtin; refine wpList_append_eq rfl _ _ 22 rfl _ _ _ W3 rfl rfl HE3.out ?_)
          have hb4 := hba.trans hb3
          go_wp2_with (fail)
          go_roundg gi
          case rel => exact ⟨k + 1, by have := HK.out; show _ = _; omega, by go_num, by rw [HX.out]; exact ho3, hb4⟩
          case measure => omega
        · have HX : Hid (onlyL (l.take (k + 1)) ion = L) := by show _ = _; rw [HN.out, if_neg hi]
          have q1 : (g1 == ion) = false := by simpa using hi
          go_wp2_with (fail)
          go_roundg gi
          case rel => exact ⟨k + 1, by have := HK.out; show _ = _; omega, by go_num, by rw [HX.out]; exact own_call hown (bl_alloc (Below.refl wr.heap.size wr) _), hba⟩
          case measure => omega
end Go.Proofs.Ytlhnbknilcmleaa
