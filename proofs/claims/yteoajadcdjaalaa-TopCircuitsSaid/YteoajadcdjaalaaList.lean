/- Lists of gates as cells; which circuits are valid; comparisons of lists of gates. -/
import Derived.Test.YteoajadcdjaalaaGate
import Derived.Test.YteoajadcdjaalaaOwn
import Derived.WalkSmall
namespace Go.Proofs.Yteoajadcdjaalaa
open Go.RowKit

/-- The cells of a list of gates. -/
def cellsG (l : List G) : List Value := l.flatMap fun g => [.int .i64 g.1, .int .i64 g.2.1, .int .i64 g.2.2.1, .int .i64 g.2.2.2]
@[simp] theorem cellsG_length (l : List G) : (cellsG l).length = l.length * 4 := by
  induction l with
  | nil => rfl
  | cons a t ih => simp only [cellsG, List.flatMap_cons, List.length_append, List.length_cons, List.length_nil] at ih ⊢; omega
theorem cellsG_snoc (l : List G) (g : G) : cellsG (l ++ [g]) = cellsG l ++ [.int .i64 g.1, .int .i64 g.2.1, .int .i64 g.2.2.1, .int .i64 g.2.2.2] := by simp [cellsG]
theorem cellsG_append (l m : List G) : cellsG (l ++ m) = cellsG l ++ cellsG m := by simp [cellsG]
def g0 : G := (0, 0, 0, 0)
theorem cellsG_get : ∀ (l : List G) (k : Nat), k < l.length → (cellsG l)[k * 4]? = some (.int .i64 (l.getD k g0).1) ∧ (cellsG l)[k * 4 + 1]? = some (.int .i64 (l.getD k g0).2.1) ∧ (cellsG l)[k * 4 + 2]? = some (.int .i64 (l.getD k g0).2.2.1) ∧ (cellsG l)[k * 4 + 3]? = some (.int .i64 (l.getD k g0).2.2.2)
  | a :: t, 0, _ => by simp [cellsG]
  | a :: t, k + 1, h => by
    have := cellsG_get t k (by simpa using h)
    rw [Nat.succ_mul]
    simpa [cellsG] using this
/-- What is read of the gate at k. -/
theorem Rd.gate {w : World} {A : Option Addr} {l : List G} (h : Rd w A (cellsG l)) {k : Nat} (hk : k < l.length) : ∃ b o, A = some ⟨b, o, none⟩ ∧ b < w.heap.size ∧
    w.cell? ⟨b, o + k * 4, none⟩ = some (.int .i64 (l.getD k g0).1) ∧ w.cell? ⟨b, o + k * 4 + 1, none⟩ = some (.int .i64 (l.getD k g0).2.1) ∧ w.cell? ⟨b, o + k * 4 + 2, none⟩ = some (.int .i64 (l.getD k g0).2.2.1) ∧ w.cell? ⟨b, o + k * 4 + 3, none⟩ = some (.int .i64 (l.getD k g0).2.2.2) := by
  obtain ⟨b, o, rfl, hb, hc⟩ := h.at_ (k := k * 4) (by simp; omega)
  obtain ⟨h0, h1, h2, h3⟩ := cellsG_get l k hk
  exact ⟨b, o, rfl, hb, hc _ _ h0, by rw [Nat.add_assoc]; exact hc _ _ h1, by rw [Nat.add_assoc]; exact hc _ _ h2, by rw [Nat.add_assoc]; exact hc _ _ h3⟩

def gateB (n : Int) (g : G) : Bool := isGateB n g.1 g.2.1 g.2.2.1 g.2.2.2
def gatesE (n : Int) (l : List G) : Int := if l.all (gateB n) then 0 else 1
def validE (n : Int) (l : List G) : Int := if inB n 1 4 then (if l.length ≤ 10 then gatesE n l else 3) else 1
theorem allG_succ (f : G → Bool) {p : List G} {k : Nat} (h : k < p.length) : (p.take (k + 1)).all f = ((p.take k).all f && f (p.getD k g0)) := by
  rw [List.take_succ_eq_append_getElem h, List.all_append]; simp [h]
theorem allG_no (f : G → Bool) {p : List G} {k : Nat} (h : k < p.length) (hf : f (p.getD k g0) = false) : p.all f = false := by
  rw [List.all_eq_false]
  exact ⟨p[k], List.getElem_mem h, by simp [h] at hf; simp [hf]⟩

set_option maxHeartbeats 1000000 in
theorem validateGates_c (n : Int) (A : Option Addr) (l : List G) (cap : Nat) (w : World) (hlen : l.length ≤ 1000) (hr : Rd w A (cellsG l)) :
    Calls Try.prog 55 #[.int .i64 n, .slice A l.length cap] w fun e w' => e = .returned (.int .i64 (gatesE n l)) ∧ Below w.heap.size w w' := by
  go_enter Try.func55, Try.ntmps55
  go_wp2
  go_loopw [9] (fun i wr => ∃ k : Nat, k ≤ l.length ∧ i = .int .i64 k ∧ Hid ((l.take k).all (gateB n) = true) ∧ Below w.heap.size w wr) (fun i _ => l.length - (intOf i).toNat)
  case atStart => exact ⟨0, Nat.zero_le _, rfl, by simp [Hid], Below.refl _ _⟩
  case round =>
    obtain ⟨k, hk, rfl, hall, hb⟩ := hrel
    by_cases hlt : k < l.length
    · obtain ⟨b, o, rfl, hbl, c0, c1, c2, c3⟩ := (hr.later hb).gate hlt
      have H1 := Lib.hid (allG_succ (gateB n) hlt)
      have H2 := Lib.hid (@allG_no (gateB n) l k hlt)
      generalize l.getD k g0 = g at c0 c1 c2 c3 H1 H2
      obtain ⟨gk, ga, gb, gt⟩ := g
      simp only [] at c0 c1 c2 c3
      have HG := fun w => Lib.hid (isGate_c n gk ga gb gt w)
      have HE : Hid (gateB n (gk, ga, gb, gt) = isGateB n gk ga gb gt) := rfl
      generalize isGateB n gk ga gb gt = v at HG HE
      cases v with
      | true =>
        go_wp2_with (fail)
        refine (HG _).out.mono ?_
        rintro e w1 ⟨rfl, hb1⟩
        go_wp2_with (fail)
        go_roundw
        case rel => exact ⟨k + 1, by omega, by go_num, by show _ = _; rw [H1.out, hall.out, HE.out]; rfl, bl_call (bl_alloc hb _) hb1⟩
        case measure => simp [intOf]; omega
      | false =>
        go_wp2_with (fail)
        refine (HG _).out.mono ?_
        rintro e w1 ⟨rfl, hb1⟩
        go_wp2_with (fail)
        go_ret
        exact ⟨ret_i (by rw [gatesE, H2.out HE.out]; rfl), bl_call (bl_alloc hb _) hb1⟩
    · obtain rfl : k = l.length := by omega
      go_wp2_with (fail)
      go_ret
      exact ⟨ret_i (by have h := hall.out; rw [List.take_length] at h; rw [gatesE, h]; rfl), hb⟩

theorem validate_c (n : Int) (A : Option Addr) (l : List G) (cap : Nat) (w : World) (hlen : l.length ≤ 1000) (hr : Rd w A (cellsG l)) :
    Calls Try.prog 24 #[.int .i64 n, .slice A l.length cap] w fun e w' => e = .returned (.int .i64 (validE n l)) ∧ Below w.heap.size w w' := by
  by_cases h1 : n < 1
  · go_enter Try.func24, Try.ntmps24
    go_wp2_with (fail)
    go_ret
    exact ⟨ret_i (by rw [validE, if_neg (by rw [inB_z]; omega)]), Below.refl _ _⟩
  · by_cases h2 : 4 < n
    · go_enter Try.func24, Try.ntmps24
      go_wp2_with (fail)
      go_ret
      exact ⟨ret_i (by rw [validE, if_neg (by rw [inB_z]; omega)]), Below.refl _ _⟩
    · by_cases h3 : 10 < l.length
      · have h3' : (10 : Int) < (l.length : Int) := by omega
        go_enter Try.func24, Try.ntmps24
        go_wp2_with (fail)
        go_ret
        exact ⟨ret_i (by rw [validE, if_pos (by rw [inB_z]; omega), if_neg (by omega)]), Below.refl _ _⟩
      · have h3' : ¬ (10 : Int) < (l.length : Int) := by omega
        go_enter Try.func24, Try.ntmps24
        go_wp2_with (go_at_call 55; refine (validateGates_c n A l cap w hlen hr).mono ?_; rintro e w1 ⟨rfl, hb1⟩)
        go_ret
        exact ⟨ret_i (by rw [validE, if_pos (by rw [inB_z]; omega), if_pos (by omega)]), hb1⟩
end Go.Proofs.Yteoajadcdjaalaa
