/- What is left of a circuit; whether it is short. -/
import Derived.Test.YteoajadcdjaalaaWith
namespace Go.Proofs.Yteoajadcdjaalaa
open Go.RowKit

def shortL (l : List G) : List G := l.foldl withL []
theorem shortL_succ {l : List G} {k : Nat} (h : k < l.length) : shortL (l.take (k + 1)) = withL (shortL (l.take k)) (l.getD k g0) := by
  rw [List.take_succ_eq_append_getElem h, shortL, List.foldl_append]; simp [h, shortL]
theorem shortL_len (l : List G) : (shortL l).length ≤ l.length := by
  suffices h : ∀ (m : List G), (l.foldl withL m).length ≤ m.length + l.length by simpa [shortL] using h []
  induction l with
  | nil => simp
  | cons a t ih => intro m; have := ih (withL m a); have := withL_len m a; simp only [List.foldl_cons, List.length_cons]; omega
theorem shortL_ang {l : List G} (h : ∀ x ∈ l, Ang x) : ∀ x ∈ shortL l, Ang x := by
  suffices hs : ∀ (m : List G), (∀ x ∈ m, Ang x) → ∀ x ∈ l.foldl withL m, Ang x from hs [] (by simp)
  induction l with
  | nil => intro m hm; exact hm
  | cons a t ih => intro m hm; exact ih (fun x hx => h x (List.mem_cons_of_mem _ hx)) _ (withL_ang hm (h a (by simp)))

def ShOut (l : List G) (w : World) (e : Ending) (w' : World) : Prop :=
  ∃ A' c', e = .returned (.slice A' (shortL l).length c') ∧ w'.ownsRow w.heap.size 23 4 (.slice A' (shortL l).length c') (shortL l).length (cellsG (shortL l)) ∧ Below w.heap.size w w'

set_option maxRecDepth 100000 in
set_option maxHeartbeats 1000000 in
theorem shortened_c (A : Option Addr) (l : List G) (c : Nat) (w : World) (hlen : l.length ≤ 100) (hang : ∀ x ∈ l, Ang x) (hr : Rd w A (cellsG l)) :
    Calls Try.prog 73 #[.slice A l.length c] w (ShOut l w) := by
  go_enter Try.func73, Try.ntmps73
  go_wp2_with (fail)
  go_loopw [3, 8] (fun v i wr => ∃ (k : Nat) (B : Option Addr) (d : Nat), k ≤ l.length ∧ i = .int .i64 k ∧ v = .slice B (shortL (l.take k)).length d ∧ wr.ownsRow w.heap.size 23 4 (.slice B (shortL (l.take k)).length d) (shortL (l.take k)).length (cellsG (shortL (l.take k))) ∧ Below w.heap.size w wr) (fun _ i _ => l.length - (intOf i).toNat)
  case atStart => exact ⟨0, none, 0, Nat.zero_le _, rfl, rfl, World.ownsRow_nil _ _ _ _, Below.refl _ _⟩
  case round =>
    obtain ⟨k, B, d, hk, rfl, rfl, ho, hb⟩ := hrel
    by_cases hlt : k < l.length
    · obtain ⟨b, o, rfl, hbl, c0, c1, c2, c3⟩ := (hr.later hb).gate hlt
      have HX := Lib.hid (shortL_succ hlt)
      have hax := hang (l.getD k g0) (by simp [hlt])
      generalize l.getD k g0 = g at c0 c1 c2 c3 HX hax
      obtain ⟨gk, ga, gb, gt⟩ := g
      simp only [] at c0 c1 c2 c3
      have hlk : (shortL (l.take k)).length ≤ 100 := Nat.le_trans (shortL_len _) (by simp; omega)
      have hak : ∀ x ∈ shortL (l.take k), Ang x := shortL_ang (fun x hx => hang x (List.mem_of_mem_take hx))
      have hws : w.heap.size ≤ wr.heap.size := hb.size
      have hal : Below wr.heap.size wr (wr.alloc (.cells #[.int .i64 gk, .int .i64 ga, .int .i64 gb, .int .i64 gt] 23)) := bl_alloc (Below.refl _ _) _
      have HW := Lib.hid (with_c w.heap.size B (shortL (l.take k)) d gk ga gb gt (wr.alloc (.cells #[.int .i64 gk, .int .i64 ga, .int .i64 gb, .int .i64 gt] 23)) hlk hak hax (by simp; omega) (own_call ho hal))
      generalize hM : shortL (l.take k) = m at *
      go_wp2_with (fail)
      refine HW.out.mono ?_
      rintro e w1 ⟨B1, d1, rfl, ho1, hb1⟩
      rw [← HX.out] at ho1
      have HL : Hid ((shortL (l.take (k + 1))).length = (withL m (gk, ga, gb, gt)).length) := by show _ = _; rw [HX.out]
      have hb2 : Below w.heap.size w w1 := (hb.trans (hal.mono hws)).trans hb1
      clear HW ho
      go_wp2_with (fail)
      go_roundw
      case rel => exact ⟨k + 1, B1, d1, by omega, by go_num, by rw [HL.out], ho1, hb2⟩
      case measure => simp [intOf]; omega
    · obtain rfl : k = l.length := by omega
      rw [List.take_length] at ho
      have HL : Hid ((shortL (l.take l.length)).length = (shortL l).length) := by show _ = _; rw [List.take_length]
      go_wp2_with (fail)
      go_ret
      exact ⟨B, d, by rw [← HL.out]; rfl, ho, hb⟩

theorem gatesE_ang {n : Int} {l : List G} (h : validE n l = 0) : l.length ≤ 10 ∧ (∀ x ∈ l, Ang x) ∧ l.all (gateB n) = true := by
  unfold validE at h
  split at h
  · split at h
    · rename_i h10
      unfold gatesE at h
      split at h
      · rename_i hall
        refine ⟨h10, fun x hx => ?_, hall⟩
        have := List.all_eq_true.1 hall x hx
        simp only [gateB, isGateB, Bool.and_eq_true, decide_eq_true_eq] at this
        unfold Ang; omega
      · cases h
    · cases h
  · cases h

def isShortB (n : Int) (l : List G) : Bool := validE n l == 0 && ((shortL l).length == l.length)

set_option maxRecDepth 100000 in
theorem IsShort_c (n : Int) (A : Option Addr) (l : List G) (c : Nat) (w : World) (hlen : l.length ≤ 1000) (hr : Rd w A (cellsG l)) :
    Calls Try.prog 39 #[.int .i64 n, .slice A l.length c] w fun e w' => e = .returned (.tuple #[.bool (isShortB n l), .int .i64 (validE n l)]) ∧ Below w.heap.size w w' := by
  have HV := Lib.hid (validate_c n A l c w hlen hr)
  by_cases hv : validE n l = 0
  · obtain ⟨h10, hang, _⟩ := gatesE_ang hv
    have HS := fun (w1 : World) (h : Rd w1 A (cellsG l)) => Lib.hid (shortened_c A l c w1 (by omega) hang h)
    have HB : Hid (isShortB n l = ((shortL l).length == l.length)) := by show _ = _; rw [isShortB, hv]; simp
    rw [hv] at HV
    rw [hv]
    go_enter Try.func39, Try.ntmps39
    go_wp2_with (go_at_call 24; refine HV.out.mono ?_; rintro e w1 ⟨rfl, hb1⟩)
    refine (HS _ (hr.later hb1)).out.mono ?_
    rintro e w2 ⟨A2, c2, rfl, ho2, hb2⟩
    go_wp2_with (fail)
    go_ret2
    exact ⟨by rw [HB.out]; simp; rw [Bool.eq_iff_iff]; simp only [beq_iff_eq]; omega, bl_call hb1 hb2⟩
  · have HB : Hid (isShortB n l = false) := by show _ = _; simp [isShortB, hv]
    generalize validE n l = ev at hv HV
    go_enter Try.func39, Try.ntmps39
    go_wp2_with (go_at_call 24; refine HV.out.mono ?_; rintro e w1 ⟨rfl, hb1⟩)
    go_ret2
    exact ⟨by rw [HB.out]; rfl, hb1⟩
end Go.Proofs.Yteoajadcdjaalaa
