/- The smallest jump of a course, and a course with it: package volt's contracts. -/
import Derived.Test.YtmmjdabioolodaaSmt
namespace Go.Proofs.Ytmmjdabioolodaa
open Go.RowKit

def rowB (g row : List (List Int)) : Bool := okG g && okR g row
theorem rowB_iff {g row : List (List Int)} : rowB g row = true ↔ OkG g ∧ OkR g row := by
  unfold rowB
  rw [Bool.and_eq_true, okG_iff, okR_iff]
/-- A table that reads, a bool and an error. -/
def OutK (M : List (List Int)) (b : Bool) (x : Int) (w : World) (e : Ending) (w' : World) : Prop :=
  ∃ A' c' S, e = .returned (.tuple #[.slice A' M.length c', .bool b, .int .i64 x]) ∧ RT w' A' S M ∧ M.length ≤ c' ∧ Below w.heap.size w w'
def smoG (g row : List (List Int)) : Int × Bool := if rowB g row = true then ((bestC g row).2, eachB g row) else (0, false)
def crsG (g row : List (List Int)) : List (List Int) := if rowB g row = true then (bestC g row).1 else []
set_option maxRecDepth 100000 in
set_option maxHeartbeats 2000000 in
theorem Smooth_c (A B : Option Addr) (R T : Rows) (g row : List (List Int)) (cap cap' : Nat) (w : World) (hl : Brief g) (hl' : Brief row) (hr : RT w A R g) (hs : RT w B T row) :
    Calls Try.prog 46 #[.slice A g.length cap, .slice B row.length cap'] w fun e w' => e = .returned (.tuple #[.int .i64 (smoG g row).1, .bool (smoG g row).2, .int .i64 (errB (rowB g row))]) ∧ Below w.heap.size w w' := by
  have HV := Lib.hid (validateRow_c A B R T g row cap cap' w hl hl' hr hs)
  change Hid (Calls _ _ _ _ fun e w' => e = .returned (.int .i64 (errB (rowB g row))) ∧ _) at HV
  have HS := fun (h : rowB g row = true) w1 (hb : Below w.heap.size w w1) => Lib.hid (smoothest_c A B R T g row cap cap' w1 (rowB_iff.1 h).1 (rowB_iff.1 h).2 (hr.later hb) (hs.later hb))
  unfold smoG
  unfold OutB at HS
  generalize rowB g row = x at *
  generalize eachB g row = y at *
  generalize bestC g row = bc at *
  obtain ⟨st, j⟩ := bc
  simp only [] at HS
  cases x with
  | false =>
    clear HS
    go_enter Try.func46, Try.ntmps46
    go_wp2_with (fail)
    refine HV.out.mono ?_
    rintro e w1 ⟨rfl, hb1⟩
    rw [errB_f]
    go_wp2_with (fail)
    go_ret3
    exact ⟨rfl, hb1⟩
  | true =>
    replace HS := HS rfl
    rw [if_pos rfl]
    generalize st.length = m at *
    go_enter Try.func46, Try.ntmps46
    go_wp2_with (fail)
    refine HV.out.mono ?_
    rintro e w1 ⟨rfl, hb1⟩
    rw [errB_t]
    go_wp2_with (fail)
    refine (HS _ hb1).out.mono ?_
    rintro e w2 ⟨A2, c2, S2, rfl, hrt, _, hb2⟩
    have hb12 := bl_call hb1 hb2
    have hx : Bx (w2.alloc (.cells #[.slice A2 m c2, .int .i64 j] 92)) w2.heap.size 92 #[.slice A2 m c2, .int .i64 j] := Bx.new w2 _ _
    obtain ⟨_, y1, _, _⟩ := hx.two
    have hb3 := bl_alloc hb12 (.cells #[.slice A2 m c2, .int .i64 j] 92)
    go_wp2_with (fail)
    go_ret3
    exact ⟨rfl, hb3⟩
set_option maxRecDepth 100000 in
set_option maxHeartbeats 2000000 in
theorem Course_c (A B : Option Addr) (R T : Rows) (g row : List (List Int)) (cap cap' : Nat) (w : World) (hl : Brief g) (hl' : Brief row) (hr : RT w A R g) (hs : RT w B T row) :
    Calls Try.prog 48 #[.slice A g.length cap, .slice B row.length cap'] w (OutK (crsG g row) (smoG g row).2 (errB (rowB g row)) w) := by
  have HV := Lib.hid (validateRow_c A B R T g row cap cap' w hl hl' hr hs)
  change Hid (Calls _ _ _ _ fun e w' => e = .returned (.int .i64 (errB (rowB g row))) ∧ _) at HV
  have HS := fun (h : rowB g row = true) w1 (hb : Below w.heap.size w w1) => Lib.hid (smoothest_c A B R T g row cap cap' w1 (rowB_iff.1 h).1 (rowB_iff.1 h).2 (hr.later hb) (hs.later hb))
  have HFO : Hid (∀ (M : List (List Int)) (b : Bool) (x : Int) (m : Nat) (A' : Option Addr) (c' : Nat) (S : Rows) (w' : World), crsG g row = M → (smoG g row).2 = b → errB (rowB g row) = x → M.length = m → RT w' A' S M → m ≤ c' → Below w.heap.size w w' → OutK (crsG g row) (smoG g row).2 (errB (rowB g row)) w (.returned (.tuple #[.slice A' m c', .bool b, .int .i64 x])) w') := fun M b x m A' c' S w' h1 h2 h3 h4 h5 h6 h7 => by subst h4; rw [h1, h2, h3]; exact ⟨A', c', S, rfl, h5, h6, h7⟩
  generalize OutK (crsG g row) (smoG g row).2 (errB (rowB g row)) w = FO at HFO ⊢
  unfold smoG crsG at HFO
  unfold OutB at HS
  generalize rowB g row = x at *
  generalize eachB g row = y at *
  generalize bestC g row = bc at *
  obtain ⟨st, j⟩ := bc
  simp only [] at HS
  cases x with
  | false =>
    clear HS
    go_enter Try.func48, Try.ntmps48
    go_wp2_with (fail)
    refine HV.out.mono ?_
    rintro e w1 ⟨rfl, hb1⟩
    rw [errB_f]
    go_wp2_with (fail)
    go_ret3
    exact HFO.out [] false 1 0 none 0 (fun _ => (none, 0)) _ rfl rfl rfl rfl ⟨.inl rfl, fun k hk => by simp at hk⟩ (Nat.le_refl _) hb1
  | true =>
    replace HS := HS rfl
    generalize hm : st.length = m at *
    have HM := Lib.hid hm
    clear hm
    go_enter Try.func48, Try.ntmps48
    go_wp2_with (fail)
    refine HV.out.mono ?_
    rintro e w1 ⟨rfl, hb1⟩
    rw [errB_t]
    go_wp2_with (fail)
    refine (HS _ hb1).out.mono ?_
    rintro e w2 ⟨A2, c2, S2, rfl, hrt, hcp, hb2⟩
    have hb12 := bl_call hb1 hb2
    have hx : Bx (w2.alloc (.cells #[.slice A2 m c2, .int .i64 j] 92)) w2.heap.size 92 #[.slice A2 m c2, .int .i64 j] := Bx.new w2 _ _
    obtain ⟨y0, _, _, _⟩ := hx.two
    have hb3 := bl_alloc hb12 (.cells #[.slice A2 m c2, .int .i64 j] 92)
    have hrt3 := hrt.later (bl_alloc (Below.refl w2.heap.size w2) (.cells #[.slice A2 m c2, .int .i64 j] 92))
    go_wp2_with (fail)
    go_ret3
    exact HFO.out st y 0 m A2 c2 S2 _ rfl rfl rfl HM.out hrt3 hcp hb3
end Go.Proofs.Ytmmjdabioolodaa
