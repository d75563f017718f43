/- Fractions and items in rows of their own: made, stored, appended; which lists are the same. -/
import Derived.Test.YtgbjglkiaoplmaaWth
import Derived.Laws.OwnMore
namespace Go.Proofs.Ytgbjglkiaoplmaa
open Go.RowKit

def cellsR (l : List (Int × Int)) : List Value := l.flatMap fun a => [.int .i64 a.1, .int .i64 a.2]
@[simp] theorem cellsR_length (l : List (Int × Int)) : (cellsR l).length = l.length * 2 := by
  induction l with
  | nil => rfl
  | cons a t ih => simp only [cellsR, List.flatMap_cons, List.length_append, List.length_cons, List.length_nil] at ih ⊢; omega
theorem cellsR_snoc (l : List (Int × Int)) (a : Int × Int) : cellsR (l ++ [a]) = cellsR l ++ [.int .i64 a.1, .int .i64 a.2] := by simp [cellsR]
theorem cellsR_get : ∀ (l : List (Int × Int)) (k : Nat), k < l.length → (cellsR l)[k * 2]? = some (.int .i64 (l.getD k (0, 0)).1) ∧ (cellsR l)[k * 2 + 1]? = some (.int .i64 (l.getD k (0, 0)).2)
  | a :: t, 0, _ => by simp [cellsR]
  | a :: t, k + 1, h => by
    have := cellsR_get t k (by simpa using h)
    rw [Nat.succ_mul]
    simpa [cellsR] using this
theorem cellsR_set : ∀ (M : List (Int × Int)) (k : Nat) (x y : Int), cellsR (M.set k (x, y)) = ((cellsR M).set (k * 2) (.int .i64 x)).set (k * 2 + 1) (.int .i64 y)
  | [], k, x, y => by simp [cellsR]
  | a :: r, 0, x, y => rfl
  | a :: r, k + 1, x, y => by
    have ih := cellsR_set r k x y
    have e : (k + 1) * 2 = k * 2 + 1 + 1 := by omega
    show [Value.int .i64 a.1, .int .i64 a.2] ++ cellsR (r.set k (x, y)) = (([Value.int .i64 a.1, .int .i64 a.2] ++ cellsR r).set ((k + 1) * 2) _).set ((k + 1) * 2 + 1) _
    rw [ih, e]
    rfl
theorem Rd.rt {w : World} {A : Option Addr} {l : List (Int × Int)} (h : Rd w A (cellsR l)) {k : Nat} (hk : k < l.length) : ∃ b o, A = some ⟨b, o, none⟩ ∧ b < w.heap.size ∧
    w.cell? ⟨b, o + k * 2, none⟩ = some (.int .i64 (l.getD k (0, 0)).1) ∧ w.cell? ⟨b, o + k * 2 + 1, none⟩ = some (.int .i64 (l.getD k (0, 0)).2) := by
  obtain ⟨b, o, rfl, hb, hc⟩ := h.at_ (k := k * 2) (by rw [cellsR_length]; omega)
  obtain ⟨h0, h1⟩ := cellsR_get l k hk
  exact ⟨b, o, rfl, hb, hc _ _ h0, by rw [Nat.add_assoc]; exact hc _ _ h1⟩
theorem rat_info : (Try.prog.info? 30).map (fun i => (i.zero, i.size, i.bytes)) = some (some (.agg #[.int .i64 0, .int .i64 0]), 2, 16) := by kernel_rfl
theorem made_pairs (n : Nat) : (madeCells (Value.agg #[.int .i64 0, .int .i64 0]).cells (n * 2)).toList = cellsR (List.replicate n (0, 0)) := by
  apply List.ext_getElem?
  intro j
  by_cases hj : j < n * 2
  · have e : (cellsR (List.replicate n ((0 : Int), (0 : Int))))[j]? = some (.int .i64 0) := by
      obtain ⟨h0, h1⟩ := cellsR_get (List.replicate n ((0 : Int), (0 : Int))) (j / 2) (by simp; omega)
      have hz : (List.replicate n ((0 : Int), (0 : Int))).getD (j / 2) (0, 0) = (0, 0) := by
        rw [List.getD_eq_getElem?_getD, List.getElem?_replicate]; split <;> rfl
      rw [hz] at h0 h1
      rcases (by omega : j = j / 2 * 2 ∨ j = j / 2 * 2 + 1) with e | e
      · rw [← e] at h0; exact h0
      · rw [← e] at h1; exact h1
    rw [e]
    rcases (by omega : j % 2 = 0 ∨ j % 2 = 1) with e | e <;> simp [madeCells, hj, Value.cells, e]
  · rw [List.getElem?_eq_none (by simp [madeCells, Value.cells]; omega), List.getElem?_eq_none (by simp; omega)]
theorem made_rats (n : Nat) (hn : n ≤ 100000) (w : World) : ∃ w', (Instr.makeSlice 25 (.int .i64 n) (.int .i64 n)).run Try.prog w = .ok (.slice (some ⟨w.heap.size, 0, none⟩) n n) w' ∧
    w'.ownsRow w.heap.size 30 2 (.slice (some ⟨w.heap.size, 0, none⟩) n n) n (cellsR (List.replicate n (0, 0))) ∧ w.grownBy w' none := by
  obtain ⟨i0, hi, hz0, hz1, hz2⟩ := info_parts rat_info
  obtain ⟨w', h1, h2, h3⟩ := run_make_full (P := Try.prog) w w.heap.size 25 30 i0 _ 2 Try.underlying25 hi hz0 hz1 .i64 .i64 n (by rw [hz2]; omega) (by unfold maxLen; omega) (Nat.le_refl _)
  rw [made_pairs] at h2
  exact ⟨w', h1, h2, h3⟩
theorem own_putR {w : World} {base c k n : Nat} {A : Option Addr} {M : List (Int × Int)} (h : w.ownsRow base 30 2 (.slice A n c) n (cellsR M)) (hn : M.length = n) (hk : k < n) (x y : Int) :
    ∃ g, A = some ⟨g, 0, none⟩ ∧ base ≤ g ∧ g < w.heap.size ∧ (w.cell? ⟨g, k * 2, none⟩ = some (.int .i64 (M.getD k (0, 0)).1) ∧ w.cell? ⟨g, k * 2 + 1, none⟩ = some (.int .i64 (M.getD k (0, 0)).2)) ∧ (w.frozen? ⟨g, k * 2, none⟩ = false ∧ w.frozen? ⟨g, k * 2 + 1, none⟩ = false) ∧
      ((w.setCell ⟨g, k * 2, none⟩ (.int .i64 x)).setCell ⟨g, k * 2 + 1, none⟩ (.int .i64 y)).ownsRow base 30 2 (.slice A n c) n (cellsR (M.set k (x, y))) := by
  have h' := h
  rcases h'.2 with ⟨he, _⟩ | ⟨g, cap, cur, hv, hb, hg, _⟩
  · simp at he; omega
  · simp only [Value.slice.injEq] at hv
    obtain ⟨rfl, _, rfl⟩ := hv
    have hgl : g < w.heap.size := (Array.getElem?_eq_some_iff.1 hg).1
    refine ⟨g, rfl, hb, hgl, ?_, ⟨h.frozenAt _, h.frozenAt _⟩, ?_⟩
    · obtain ⟨b, o, he, _, h0, h1⟩ := (own_rd h).1.rt (k := k) (by omega)
      injection he with he
      injection he with e1 e2
      subst e1 e2
      rw [Nat.zero_add] at h0 h1
      exact ⟨h0, h1⟩
    · rw [cellsR_set]
      exact ((h.stored _ _).1.stored _ _).1
/-- One fraction more. -/
theorem append_rat (base : Nat) (w : World) (v : Value) (l : List (Int × Int)) (a : Int × Int) (hown : w.ownsRow base 30 2 v l.length (cellsR l)) (hlen : l.length ≤ 100000) (hb : base ≤ w.heap.size) :
    ∃ A' c' w', (∀ ty, (Builtin.append_ #[25, 25] ty #[v, .slice (some ⟨w.heap.size, 0, none⟩) 1 1]).run Try.prog (w.alloc (.cells #[.int .i64 a.1, .int .i64 a.2] 30)) = .ok (.slice A' (l.length + 1) c') w') ∧
      w'.ownsRow base 30 2 (.slice A' (l.length + 1) c') (l.length + 1) (cellsR (l ++ [a])) ∧ Below base w w' := by
  obtain ⟨i0, hi, hz0, hz1, hz2⟩ := info_parts rat_info
  have hrd : Rd (w.alloc (.cells #[.int .i64 a.1, .int .i64 a.2] 30)) (some ⟨w.heap.size, 0, none⟩) [.int .i64 a.1, .int .i64 a.2] := Bx.rd (Bx.new w _ _)
  have hs : base ≤ (w.alloc (.cells #[.int .i64 a.1, .int .i64 a.2] 30)).heap.size := by rw [World.size_alloc]; omega
  obtain ⟨A', c', w2, h1, h2, h3⟩ := run_append_rows (P := Try.prog) _ base 25 30 i0 _ 2 16 Try.underlying25 hi hz0 hz1 hz2 rfl (by decide) v l.length (cellsR l) (hown.alloc _) (some ⟨w.heap.size, 0, none⟩) 1 1 _ rfl (by simp [Value.oneCell']) hrd (by unfold maxLen; omega) (by omega) hs
  refine ⟨A', c', w2, h1, ?_, ((Below.refl base w).alloc hb _).trans (grown_below (hown.alloc _) h3 hs)⟩
  rw [cellsR_snoc]
  exact h2
theorem cellsI_app (l m : List It) : cellsI (l ++ m) = cellsI l ++ cellsI m := by simp [cellsI]
/-- Items of another row, too. -/
theorem append_items (base : Nat) (w : World) (v : Value) (l : List It) (B : Option Addr) (m : List It) (c : Nat) (hown : w.ownsRow base 50 3 v l.length (cellsI l)) (hr : Rd w B (cellsI m)) (hlen : l.length ≤ 100000) (hlen2 : m.length ≤ 100000) (hb : base ≤ w.heap.size) :
    ∃ A' c' w', (∀ ty, (Builtin.append_ #[22, 22] ty #[v, .slice B m.length c]).run Try.prog w = .ok (.slice A' (l.length + m.length) c') w') ∧
      w'.ownsRow base 50 3 (.slice A' (l.length + m.length) c') (l.length + m.length) (cellsI (l ++ m)) ∧ Below base w w' := by
  obtain ⟨i0, hi, hz0, hz1, hz2⟩ := info_parts item_info
  obtain ⟨A', c', w2, h1, h2, h3⟩ := run_append_rows (P := Try.prog) w base 22 50 i0 _ 3 24 Try.underlying22 hi hz0 hz1 hz2 rfl (by decide) v l.length (cellsI l) hown B m.length c (cellsI m) (by simp) (cellsI_one m) hr (by unfold maxLen; omega) (by omega) hb
  refine ⟨A', c', w2, h1, ?_, grown_below hown h3 hb⟩
  rw [cellsI_app]
  exact h2
set_option maxRecDepth 100000 in
set_option maxHeartbeats 2000000 in
theorem sameRats_c (A B : Option Addr) (p : List (Int × Int)) (cap cap' : Nat) (w : World) (hlen : p.length ≤ 100000) (hr : Rd w A (cellsR p)) (hq : Rd w B (cellsR p)) :
    Calls Try.prog 26 #[.slice A p.length cap, .slice B p.length cap'] w fun e w' => e = .returned (.bool true) ∧ Below w.heap.size w w' := by
  go_enter Try.func26, Try.ntmps26
  go_wp2_with (fail)
  go_loopg [5] p.length (fun gk iv wr => ∃ k : Nat, Hid (k + gk = p.length) ∧ iv = .int .i64 (k : Int) ∧ Below w.heap.size w wr)
  case atStart => exact ⟨0, by simp [Hid], rfl, Below.refl _ _⟩
  case round =>
    obtain ⟨k, HK, rfl, hb⟩ := hrel
    rcases gk with _ | gi
    · obtain rfl : k = p.length := HK.out
      go_wp2_with (fail)
      go_ret
      exact ⟨rfl, hb⟩
    · have hkp : k < p.length := by have := HK.out; omega
      have hkp' : (k : Int) < (p.length : Int) := by omega
      obtain ⟨b1, o1, rfl, _, f0, f1⟩ := (hr.later hb).rt hkp
      obtain ⟨b2, o2, rfl, _, g0, g1⟩ := (hq.later hb).rt hkp
      generalize p.getD k (0, 0) = x at *
      obtain ⟨x0, x1⟩ := x
      simp only [] at f0 f1 g0 g1
      go_wp2_with (fail)
      go_quiet (fail)
      go_wp2_with (fail)
      go_roundg gi
      case rel => exact ⟨k + 1, by have := HK.out; show _ = _; omega, by go_num, below_drewN hb _⟩
      case measure => omega
set_option maxRecDepth 100000 in
set_option maxHeartbeats 2000000 in
theorem same_c (A B : Option Addr) (p : List It) (cap cap' : Nat) (w : World) (hlen : p.length ≤ 100000) (hr : Rd w A (cellsI p)) (hq : Rd w B (cellsI p)) :
    Calls Try.prog 40 #[.slice A p.length cap, .slice B p.length cap'] w fun e w' => e = .returned (.bool true) ∧ Below w.heap.size w w' := by
  go_enter Try.func40, Try.ntmps40
  go_wp2_with (fail)
  go_loopg [5] p.length (fun gk iv wr => ∃ k : Nat, Hid (k + gk = p.length) ∧ iv = .int .i64 (k : Int) ∧ Below w.heap.size w wr)
  case atStart => exact ⟨0, by simp [Hid], rfl, Below.refl _ _⟩
  case round =>
    obtain ⟨k, HK, rfl, hb⟩ := hrel
    rcases gk with _ | gi
    · obtain rfl : k = p.length := HK.out
      go_wp2_with (fail)
      go_ret
      exact ⟨rfl, hb⟩
    · have hkp : k < p.length := by have := HK.out; omega
      have hkp' : (k : Int) < (p.length : Int) := by omega
      obtain ⟨b1, o1, rfl, _, f0, f1, f2⟩ := (hr.later hb).itm hkp
      obtain ⟨b2, o2, rfl, _, g0, g1, g2⟩ := (hq.later hb).itm hkp
      generalize (p.getD k it0).u = x0 at *
      generalize (p.getD k it0).n = x1 at *
      generalize (p.getD k it0).d = x2 at *
      go_wp2_with (fail)
      go_quiet (fail)
      go_wp2_with (fail)
      go_roundg gi
      case rel => exact ⟨k + 1, by have := HK.out; show _ = _; omega, by go_num, below_drewN hb _⟩
      case measure => omega
set_option maxRecDepth 100000 in
set_option maxHeartbeats 2000000 in
theorem sameInts_c (A B : Option Addr) (p : List Int) (cap cap' : Nat) (w : World) (hlen : p.length ≤ 100000) (hr : Rd w A (ints p)) (hq : Rd w B (ints p)) :
    Calls Try.prog 35 #[.slice A p.length cap, .slice B p.length cap'] w fun e w' => e = .returned (.bool true) ∧ Below w.heap.size w w' := by
  go_enter Try.func35, Try.ntmps35
  go_wp2_with (fail)
  go_loopg [5] p.length (fun gk iv wr => ∃ k : Nat, Hid (k + gk = p.length) ∧ iv = .int .i64 (k : Int) ∧ Below w.heap.size w wr)
  case atStart => exact ⟨0, by simp [Hid], rfl, Below.refl _ _⟩
  case round =>
    obtain ⟨k, HK, rfl, hb⟩ := hrel
    rcases gk with _ | gi
    · obtain rfl : k = p.length := HK.out
      go_wp2_with (fail)
      go_ret
      exact ⟨rfl, hb⟩
    · have hkp : k < p.length := by have := HK.out; omega
      have hkp' : (k : Int) < (p.length : Int) := by omega
      obtain ⟨b1, o1, rfl, _, f0⟩ := (hr.later hb).one hkp
      obtain ⟨b2, o2, rfl, _, g0⟩ := (hq.later hb).one hkp
      generalize p.getD k 0 = x at *
      go_wp2_with (fail)
      go_quiet (fail)
      go_wp2_with (fail)
      go_roundg gi
      case rel => exact ⟨k + 1, by have := HK.out; show _ = _; omega, by go_num, below_drewN hb _⟩
      case measure => omega
end Go.Proofs.Ytgbjglkiaoplmaa
