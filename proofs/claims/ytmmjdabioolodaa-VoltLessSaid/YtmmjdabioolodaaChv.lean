/- Whether voltages make a wish; jumps: package volt's contracts and the specification's. -/
import Derived.Test.YtmmjdabioolodaaRway
namespace Go.Proofs.Ytmmjdabioolodaa
open Go.RowKit

set_option maxHeartbeats 2000000 in
theorem CheckVolts_c (A B C : Option Addr) (R : Rows) (g : List (List Int)) (l v : List Int) (cap cap' cap2 : Nat) (w : World) (hl : Brief g) (hl' : l.length ≤ 1000) (hl2 : v.length ≤ 1000) (hr : RT w A R g) (hs : Rd w B (ints l)) (ht : Rd w C (ints v)) :
    Calls Try.prog 24 #[.slice A g.length cap, .slice B l.length cap', .slice C v.length cap2] w fun e w' => e = .returned (.int .i64 (chvE g l v)) ∧ Below w.heap.size w w' := by
  have HV := Lib.hid (validateWish_c A B R g l cap cap' w hl hl' hr hs)
  change Hid (Calls _ _ _ _ fun e w' => e = .returned (.int .i64 (errB (wayB g l))) ∧ _) at HV
  have HW := fun (h : wayB g l = true) w1 (hb : Below w.heap.size w w1) => Lib.hid (wiresOf_c A R g cap w1 (by have := (wayB_iff h).1.pts; omega) (hr.later hb))
  have HI := fun w1 (hb : Below w.heap.size w w1) => Lib.hid (validateNumbers_c C v cap2 (wires g) 3 w1 hl2 (by decide) (ht.later hb))
  have HF := fun (h : wayB g l = true) (h' : okL g v = true) w1 (hb : Below w.heap.size w w1) => Lib.hid (fieldOf_c A C R g v cap cap2 w1 (wayB_iff h).1 ((okN_iff (by decide)).1 h') (hr.later hb) (ht.later hb))
  have hfl := fieldL_len g v
  have HE := fun (h : wayB g l = true) (D : Option Addr) (d : Nat) (w1 : World) (hd : Rd w1 D (ints (fieldL g v))) (hb : Below w.heap.size w w1) => Lib.hid (equal_c D B (fieldL g v) l d cap' w1 (by rw [hfl]; have := (wayB_iff h).1.pts; omega) hd (hs.later hb))
  rw [make_decide, hfl] at HE
  unfold chvE
  clear hfl
  change ∀ w1, Below w.heap.size w w1 → Hid (Calls _ _ _ _ fun e w' => e = .returned (.int .i64 (errB (okL g v))) ∧ _) at HI
  generalize wayB g l = x at *
  generalize okL g v = y at *
  generalize fieldL g v = F at *
  generalize makeB g l v = z at *
  generalize wires g = n at *
  cases x with
  | false =>
    clear HF HI HE HW
    go_enter Try.func24, Try.ntmps24
    go_wp2_with (fail)
    refine HV.out.mono ?_
    rintro e w1 ⟨rfl, hb1⟩
    rw [errB_f]
    go_wp2_with (fail)
    go_ret
    exact ⟨rfl, hb1⟩
  | true =>
    replace HE := HE rfl
    replace HW := HW rfl
    cases y with
    | false =>
      clear HF HE
      go_enter Try.func24, Try.ntmps24
      go_wp2_with (fail)
      refine HV.out.mono ?_
      rintro e w1 ⟨rfl, hb1⟩
      rw [errB_t]
      go_wp2_with (fail)
      refine (HW _ hb1).out.mono ?_
      rintro e w2 ⟨rfl, rfl⟩
      go_wp2_with (fail)
      refine (HI _ hb1).out.mono ?_
      rintro e w2 ⟨rfl, hb2⟩
      rw [errB_f]
      go_wp2_with (fail)
      go_ret
      exact ⟨rfl, bl_call hb1 hb2⟩
    | true =>
      replace HF := HF rfl rfl
      rw [if_pos (show (true && true) = true from rfl)]
      go_enter Try.func24, Try.ntmps24
      go_wp2_with (fail)
      refine HV.out.mono ?_
      rintro e w1 ⟨rfl, hb1⟩
      rw [errB_t]
      go_wp2_with (fail)
      refine (HW _ hb1).out.mono ?_
      rintro e w2 ⟨rfl, rfl⟩
      go_wp2_with (fail)
      refine (HI _ hb1).out.mono ?_
      rintro e w2 ⟨rfl, hb2⟩
      rw [errB_t]
      have hb12 := bl_call hb1 hb2
      go_wp2_with (fail)
      refine (HF _ hb12).out.mono ?_
      rintro e w3 ⟨rfl, hR, hb3⟩
      have hb13 := bl_call hb12 hb3
      have HE3 := HE _ g.length w3 hR.rd hb13
      clear HE HI HF HW
      go_wp2_with (fail)
      refine HE3.out.mono ?_
      rintro e w4 ⟨rfl, hb4⟩
      cases z with
      | true =>
        go_wp2_with (fail)
        go_ret
        exact ⟨rfl, bl_call hb13 hb4⟩
      | false =>
        go_wp2_with (fail)
        go_ret
        exact ⟨rfl, bl_call hb13 hb4⟩
def jumpG (a b : List Int) : Int := if okTwo a b = true then jumpL a b else 0
structure Two (a b : List Int) : Prop where
  ha : OkV a a.length 3
  hb : OkV b a.length 3
  hn : 1 ≤ a.length ∧ a.length ≤ 3
theorem okTwo_iff {a b : List Int} : okTwo a b = true ↔ Two a b := by
  unfold okTwo
  rw [Bool.and_eq_true, Bool.and_eq_true, inB_z, okN_iff (by decide), okN_iff (by decide)]
  constructor
  · rintro ⟨h1, h2, h3⟩; exact ⟨h2, h3, by omega⟩
  · rintro ⟨h1, h2, h3⟩; exact ⟨by omega, h1, h2⟩
theorem Two.small {a b : List Int} (h : Two a b) (k : Nat) : Small (a.getD k 0) ∧ Small (b.getD k 0) := ⟨small_get h.ha (by decide) k, small_get h.hb (by decide) k⟩
theorem Two.jump {a b : List Int} (h : Two a b) : jumpL a b ≤ 6 := jumpL_bound (by decide) h.ha h.hb
set_option maxHeartbeats 1000000 in
theorem Jump_c (A B : Option Addr) (a b : List Int) (cap cap' : Nat) (w : World) (hl : a.length ≤ 1000) (hl' : b.length ≤ 1000) (hr : Rd w A (ints a)) (hs : Rd w B (ints b)) :
    Calls Try.prog 37 #[.slice A a.length cap, .slice B b.length cap'] w fun e w' => e = .returned (.tuple #[.int .i64 (jumpG a b), .int .i64 (errB (okTwo a b))]) ∧ Below w.heap.size w w' := by
  have HV := Lib.hid (validateTwo_c A B a b cap cap' w hl hl' hr hs)
  have HJ := fun (h : okTwo a b = true) w1 (hb : Below w.heap.size w w1) => Lib.hid (jumpOf_c A B a b cap cap' w1 (okTwo_iff.1 h).hb.len.symm hl (okTwo_iff.1 h).small (hr.later hb) (hs.later hb))
  unfold jumpG
  generalize okTwo a b = x at *
  generalize jumpL a b = j at *
  cases x with
  | false =>
    go_enter Try.func37, Try.ntmps37
    go_wp2_with (fail)
    refine HV.out.mono ?_
    rintro e w1 ⟨rfl, hb1⟩
    rw [errB_f]
    go_wp2_with (fail)
    go_ret2
    exact ⟨rfl, hb1⟩
  | true =>
    replace HJ := HJ rfl
    go_enter Try.func37, Try.ntmps37
    go_wp2_with (fail)
    refine HV.out.mono ?_
    rintro e w1 ⟨rfl, hb1⟩
    rw [errB_t]
    go_wp2_with (fail)
    refine (HJ _ hb1).out.mono ?_
    rintro e w2 ⟨rfl, hb2⟩
    go_wp2_with (fail)
    go_ret2
    exact ⟨rfl, bl_call hb1 hb2⟩
set_option maxHeartbeats 1000000 in
theorem rJump_c (A B : Option Addr) (a b : List Int) (cap cap' : Nat) (w : World) (hl : a.length ≤ 1000) (hl' : b.length ≤ 1000) (hr : Rd w A (ints a)) (hs : Rd w B (ints b)) :
    Calls Try.prog 38 #[.slice A a.length cap, .slice B b.length cap'] w fun e w' => e = .returned (.tuple #[.int .i64 (jumpG a b), .int .i64 (errB (okTwo a b))]) ∧ Below w.heap.size w w' := by
  have HV := Lib.hid (rpair_c A B a b cap cap' w hl hl' hr hs)
  have HJ := fun (h : okTwo a b = true) w1 (hb : Below w.heap.size w w1) => Lib.hid (rjump_c A B a b cap cap' w1 (okTwo_iff.1 h).hb.len.symm hl (okTwo_iff.1 h).small (hr.later hb) (hs.later hb))
  unfold jumpG
  generalize okTwo a b = x at *
  generalize jumpL a b = j at *
  cases x with
  | false =>
    go_enter Try.func38, Try.ntmps38
    go_wp2_with (fail)
    refine HV.out.mono ?_
    rintro e w1 ⟨rfl, hb1⟩
    rw [errB_f]
    go_wp2_with (fail)
    go_ret2
    exact ⟨rfl, hb1⟩
  | true =>
    replace HJ := HJ rfl
    go_enter Try.func38, Try.ntmps38
    go_wp2_with (fail)
    refine HV.out.mono ?_
    rintro e w1 ⟨rfl, hb1⟩
    rw [errB_t]
    go_wp2_with (fail)
    refine (HJ _ hb1).out.mono ?_
    rintro e w2 ⟨rfl, hb2⟩
    go_wp2_with (fail)
    go_ret2
    exact ⟨rfl, bl_call hb1 hb2⟩
set_option maxHeartbeats 1000000 in
theorem validateRamp_c (A B : Option Addr) (a b : List Int) (cap cap' : Nat) (s : Int) (w : World) (hl : a.length ≤ 1000) (hl' : b.length ≤ 1000) (hr : Rd w A (ints a)) (hs : Rd w B (ints b)) :
    Calls Try.prog 80 #[.slice A a.length cap, .slice B b.length cap', .int .i64 s] w fun e w' => e = .returned (.int .i64 (errB (okSlew a b s))) ∧ Below w.heap.size w w' := by
  have HP := Lib.hid (validateTwo_c A B a b cap cap' w hl hl' hr hs)
  unfold okSlew
  generalize okTwo a b = x at HP
  cases x with
  | false =>
    go_enter Try.func80, Try.ntmps80
    go_wp2_with (fail)
    refine HP.out.mono ?_
    rintro e w1 ⟨rfl, hb1⟩
    rw [errB_f]
    go_wp2_with (fail)
    go_ret
    exact ⟨rfl, hb1⟩
  | true =>
    by_cases h1 : s < 1
    · rw [inB_no.2 (by omega)]
      go_enter Try.func80, Try.ntmps80
      go_wp2_with (fail)
      refine HP.out.mono ?_
      rintro e w1 ⟨rfl, hb1⟩
      rw [errB_t]
      go_wp2_with (fail)
      go_ret
      exact ⟨rfl, hb1⟩
    · by_cases h2 : 6 < s
      · rw [inB_no.2 (by omega)]
        go_enter Try.func80, Try.ntmps80
        go_wp2_with (fail)
        refine HP.out.mono ?_
        rintro e w1 ⟨rfl, hb1⟩
        rw [errB_t]
        go_wp2_with (fail)
        go_ret
        exact ⟨rfl, hb1⟩
      · rw [inB_z.2 (by omega)]
        go_enter Try.func80, Try.ntmps80
        go_wp2_with (fail)
        refine HP.out.mono ?_
        rintro e w1 ⟨rfl, hb1⟩
        rw [errB_t]
        go_wp2_with (fail)
        go_ret
        exact ⟨rfl, hb1⟩
theorem okSlew_iff {a b : List Int} {s : Int} : okSlew a b s = true ↔ Two a b ∧ 1 ≤ s ∧ s ≤ 6 := by
  unfold okSlew
  rw [Bool.and_eq_true, inB_z, okTwo_iff]
set_option maxHeartbeats 1000000 in
theorem stepsOf_c (A B : Option Addr) (a b : List Int) (cap cap' : Nat) (s : Int) (w : World) (h : Two a b) (h1 : 1 ≤ s) (h6 : s ≤ 6) (hr : Rd w A (ints a)) (hs : Rd w B (ints b)) :
    Calls Try.prog 81 #[.slice A a.length cap, .slice B b.length cap', .int .i64 s] w fun e w' => e = .returned (.int .i64 ((stepsN (jumpL a b) s : Nat) : Int)) ∧ Below w.heap.size w w' := by
  have hj := h.jump
  have hj0 := jumpL_pos a b
  obtain ⟨hst, hs6, _, _⟩ := steps_all hj0 hj h1 h6
  have HJ := Lib.hid (jumpOf_c A B a b cap cap' w h.hb.len.symm (by have := h.hn; omega) h.small hr hs)
  generalize jumpL a b = j at *
  have q1 : wrap64 (j + s) = j + s := IntWalk.wrap64_in _ ⟨by omega, by omega⟩
  have q2 : wrap64 (j + s - 1) = j + s - 1 := IntWalk.wrap64_in _ ⟨by omega, by omega⟩
  have q3 : IntKind.i64.wrap ((j + s - 1).tdiv s) = ((stepsN j s : Nat) : Int) := by
    rw [Int.tdiv_eq_ediv_of_nonneg (by omega), ← hst, IntWalk.i64_left]
    exact IntWalk.wrap64_in _ ⟨by omega, by omega⟩
  have q4 : ¬ s = 0 := by omega
  have q5 : (j + s - 1).tdiv s = ((stepsN j s : Nat) : Int) := by rw [Int.tdiv_eq_ediv_of_nonneg (by omega), ← hst]
  generalize stepsN j s = m at *
  clear hst
  go_enter Try.func81, Try.ntmps81
  go_wp2_with (fail)
  refine HJ.out.mono ?_
  rintro e w1 ⟨rfl, hb1⟩
  go_wp2_with (fail)
  go_ret
  exact ⟨ret_i (by first | rfl | omega), hb1⟩
def stepsG (a b : List Int) (s : Int) : Int := if okSlew a b s = true then ((stepsN (jumpL a b) s : Nat) : Int) else 0
set_option maxHeartbeats 1000000 in
theorem Steps_c (A B : Option Addr) (a b : List Int) (cap cap' : Nat) (s : Int) (w : World) (hl : a.length ≤ 1000) (hl' : b.length ≤ 1000) (hr : Rd w A (ints a)) (hs : Rd w B (ints b)) :
    Calls Try.prog 39 #[.slice A a.length cap, .slice B b.length cap', .int .i64 s] w fun e w' => e = .returned (.tuple #[.int .i64 (stepsG a b s), .int .i64 (errB (okSlew a b s))]) ∧ Below w.heap.size w w' := by
  have HV := Lib.hid (validateRamp_c A B a b cap cap' s w hl hl' hr hs)
  have HJ := fun (h : okSlew a b s = true) w1 (hb : Below w.heap.size w w1) => Lib.hid (stepsOf_c A B a b cap cap' s w1 (okSlew_iff.1 h).1 (okSlew_iff.1 h).2.1 (okSlew_iff.1 h).2.2 (hr.later hb) (hs.later hb))
  unfold stepsG
  generalize okSlew a b s = x at *
  generalize stepsN (jumpL a b) s = j at *
  cases x with
  | false =>
    go_enter Try.func39, Try.ntmps39
    go_wp2_with (fail)
    refine HV.out.mono ?_
    rintro e w1 ⟨rfl, hb1⟩
    rw [errB_f]
    go_wp2_with (fail)
    go_ret2
    exact ⟨rfl, hb1⟩
  | true =>
    replace HJ := HJ rfl
    go_enter Try.func39, Try.ntmps39
    go_wp2_with (fail)
    refine HV.out.mono ?_
    rintro e w1 ⟨rfl, hb1⟩
    rw [errB_t]
    go_wp2_with (fail)
    refine (HJ _ hb1).out.mono ?_
    rintro e w2 ⟨rfl, hb2⟩
    go_wp2_with (fail)
    go_ret2
    exact ⟨rfl, bl_call hb1 hb2⟩
end Go.Proofs.Ytmmjdabioolodaa
