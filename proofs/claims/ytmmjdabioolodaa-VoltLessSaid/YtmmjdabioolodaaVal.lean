/- Which gains, voltages, wishes and rows are right: package volt's contracts, with their errors. -/
import Derived.Test.YtmmjdabioolodaaSma
namespace Go.Proofs.Ytmmjdabioolodaa
open Go.RowKit

/-- Tables that are not too long to be walked. -/
def Brief (ls : List (List Int)) : Prop := ls.length ≤ 1000 ∧ ∀ k, k < ls.length → (ls.getD k []).length ≤ 1000
theorem okG_wires {g : List (List Int)} (h : inB (wires g : Int) 1 3 = false) : okG g = false := by unfold okG; rw [h]; simp
theorem okG_pts {g : List (List Int)} (h : inB (g.length : Int) 1 3 = false) : okG g = false := by unfold okG; rw [h]; simp
theorem okG_each {g : List (List Int)} (h : inB (g.length : Int) 1 3 = true) (h' : inB (wires g : Int) 1 3 = true) : okG g = eachN g (wires g) 9 g.length := by unfold okG eachN; rw [h, h']; rfl
set_option maxHeartbeats 1000000 in
theorem Validate_c (A : Option Addr) (R : Rows) (g : List (List Int)) (cap : Nat) (w : World) (hl : Brief g) (hr : RT w A R g) :
    Calls Try.prog 21 #[.slice A g.length cap] w fun e w' => e = .returned (.int .i64 (errB (okG g))) ∧ Below w.heap.size w w' := by
  obtain ⟨hl1, hl2⟩ := hl
  by_cases h0 : g.length = 0
  · rw [okG_pts (inB_no.2 (by omega))]
    have h0' : ((g.length : Int) = 0) := by omega
    go_enter Try.func21, Try.ntmps21
    go_wp2_with (fail)
    go_ret
    exact ⟨rfl, Below.refl _ _⟩
  · have h0' : ¬ ((g.length : Int) = 0) := by omega
    by_cases h3 : 3 < g.length
    · rw [okG_pts (inB_no.2 (by omega))]
      have h3' : (3 : Int) < (g.length : Int) := by omega
      go_enter Try.func21, Try.ntmps21
      go_wp2_with (fail)
      go_ret
      exact ⟨rfl, Below.refl _ _⟩
    · have h3' : ¬ (3 : Int) < (g.length : Int) := by omega
      have hpos : (0 : Int) < (g.length : Int) := by omega
      have hposn : 0 < g.length := by omega
      have hI := inB_z.2 (show (1 : Int) ≤ (g.length : Int) ∧ (g.length : Int) ≤ 3 by omega)
      obtain ⟨b, o, rfl, _, hc⟩ := hr.at_ (k := 0) (by omega)
      rw [Nat.add_zero] at hc
      have HW := fun w => Lib.hid (isWires_c (wires g : Int) w)
      have HE := Lib.hid (validateEach_c (some ⟨b, o, none⟩) R g cap (wires g) 9 w hl1 hl2 (by decide) hr)
      have H1 := Lib.hid (@okG_wires g)
      have H2 := Lib.hid (@okG_each g hI)
      clear hI
      rw [show (g.getD 0 []).length = wires g from rfl] at hc
      generalize wires g = n at hc HW HE H1 H2
      generalize inB (n : Int) 1 3 = v at HW H1 H2
      generalize okG g = res at H1 H2
      cases v with
      | false =>
        have H3 := Lib.hid (H1.out rfl)
        clear H1 H2 HE
        go_enter Try.func21, Try.ntmps21
        go_wp2_with (fail)
        refine (HW _).out.mono ?_
        rintro e w1 ⟨rfl, rfl⟩
        go_wp2_with (fail)
        go_ret
        exact ⟨ret_i (by rw [H3.out]; rfl), Below.refl _ _⟩
      | true =>
        have H3 := Lib.hid (H2.out rfl)
        clear H1 H2
        generalize eachN g n 9 g.length = b2 at HE H3
        go_enter Try.func21, Try.ntmps21
        go_wp2_with (fail)
        refine (HW _).out.mono ?_
        rintro e w1 ⟨rfl, rfl⟩
        go_wp2_with (fail)
        refine HE.out.mono ?_
        rintro e w1 ⟨rfl, hb1⟩
        go_wp2_with (fail)
        go_ret
        exact ⟨ret_i (by rw [H3.out]), hb1⟩
theorem wiresOf_c (A : Option Addr) (R : Rows) (g : List (List Int)) (cap : Nat) (w : World) (hp : 0 < g.length) (hr : RT w A R g) :
    Calls Try.prog 65 #[.slice A g.length cap] w fun e w' => e = .returned (.int .i64 (wires g : Int)) ∧ w = w' := by
  have hp' : (0 : Int) < (g.length : Int) := by omega
  obtain ⟨b, o, rfl, _, hc⟩ := hr.at_ hp
  rw [Nat.add_zero] at hc
  rw [show (g.getD 0 []).length = wires g from rfl] at hc
  generalize wires g = n at hc
  go_enter Try.func65, Try.ntmps65
  go_wp2_with (fail)
  go_ret
  exact ⟨rfl, rfl⟩
theorem okG_pos {g : List (List Int)} (h : okG g = true) : 0 < g.length := by have := (okG_iff.1 h).pts; omega
theorem err_and_f (b : Bool) : errB (false && b) = 1 := rfl
theorem err_and_t (b : Bool) : errB (true && b) = errB b := rfl
set_option maxHeartbeats 1000000 in
theorem validateVolts_c (A B : Option Addr) (R S : Rows) (g ls : List (List Int)) (cap cap' : Nat) (w : World) (hl : Brief g) (hl' : Brief ls) (hr : RT w A R g) (hs : RT w B S ls) :
    Calls Try.prog 55 #[.slice A g.length cap, .slice B ls.length cap'] w fun e w' => e = .returned (.int .i64 (errB (okG g && eachN ls (wires g) 3 ls.length))) ∧ Below w.heap.size w w' := by
  have HV := Lib.hid (Validate_c A R g cap w hl hr)
  have HP := Lib.hid (@okG_pos g)
  generalize okG g = v at HV HP
  cases v with
  | false =>
    rw [err_and_f]
    go_enter Try.func55, Try.ntmps55
    go_wp2_with (fail)
    refine HV.out.mono ?_
    rintro e w1 ⟨rfl, hb1⟩
    rw [errB_f]
    go_wp2_with (fail)
    go_ret
    exact ⟨rfl, hb1⟩
  | true =>
    rw [err_and_t]
    have hp := HP.out rfl
    have HW := fun w1 (hb : Below w.heap.size w w1) => Lib.hid (wiresOf_c A R g cap w1 hp (hr.later hb))
    have HE := fun w1 (hb : Below w.heap.size w w1) => Lib.hid (validateEach_c B S ls cap' (wires g) 3 w1 hl'.1 hl'.2 (by decide) (hs.later hb))
    clear hp HP
    generalize wires g = n at HW HE
    generalize eachN ls n 3 ls.length = v at HE
    go_enter Try.func55, Try.ntmps55
    go_wp2_with (fail)
    refine HV.out.mono ?_
    rintro e w1 ⟨rfl, hb1⟩
    rw [errB_t]
    go_wp2_with (fail)
    refine (HW _ hb1).out.mono ?_
    rintro e w2 ⟨rfl, rfl⟩
    go_wp2_with (fail)
    refine (HE _ hb1).out.mono ?_
    rintro e w2 ⟨rfl, hb2⟩
    go_wp2_with (fail)
    go_ret
    exact ⟨rfl, bl_call hb1 hb2⟩
set_option maxHeartbeats 1000000 in
theorem validateWish_c (A B : Option Addr) (R : Rows) (g : List (List Int)) (l : List Int) (cap cap' : Nat) (w : World) (hl : Brief g) (hl' : l.length ≤ 1000) (hr : RT w A R g) (hs : Rd w B (ints l)) :
    Calls Try.prog 63 #[.slice A g.length cap, .slice B l.length cap'] w fun e w' => e = .returned (.int .i64 (errB (okG g && okW g l))) ∧ Below w.heap.size w w' := by
  have HV := Lib.hid (Validate_c A R g cap w hl hr)
  generalize okG g = v at HV
  cases v with
  | false =>
    rw [err_and_f]
    go_enter Try.func63, Try.ntmps63
    go_wp2_with (fail)
    refine HV.out.mono ?_
    rintro e w1 ⟨rfl, hb1⟩
    rw [errB_f]
    go_wp2_with (fail)
    go_ret
    exact ⟨rfl, hb1⟩
  | true =>
    rw [err_and_t]
    have HE := fun w1 (hb : Below w.heap.size w w1) => Lib.hid (validateNumbers_c B l cap' g.length 1000 w1 hl' (by decide) (hs.later hb))
    unfold okW
    generalize okN l g.length 1000 = v at HE
    go_enter Try.func63, Try.ntmps63
    go_wp2_with (fail)
    refine HV.out.mono ?_
    rintro e w1 ⟨rfl, hb1⟩
    rw [errB_t]
    go_wp2_with (fail)
    refine (HE _ hb1).out.mono ?_
    rintro e w2 ⟨rfl, hb2⟩
    go_wp2_with (fail)
    go_ret
    exact ⟨rfl, bl_call hb1 hb2⟩
theorem okR_each {g row : List (List Int)} (h : inB (row.length : Int) 1 5 = true) : okR g row = eachN row g.length 1000 row.length := by unfold okR eachN okW; rw [h]; rfl
theorem okR_len {g row : List (List Int)} (h : inB (row.length : Int) 1 5 = false) : okR g row = false := by unfold okR; rw [h]; rfl
set_option maxHeartbeats 1000000 in
theorem validateRow_c (A B : Option Addr) (R S : Rows) (g row : List (List Int)) (cap cap' : Nat) (w : World) (hl : Brief g) (hl' : Brief row) (hr : RT w A R g) (hs : RT w B S row) :
    Calls Try.prog 85 #[.slice A g.length cap, .slice B row.length cap'] w fun e w' => e = .returned (.int .i64 (errB (okG g && okR g row))) ∧ Below w.heap.size w w' := by
  have HV := Lib.hid (Validate_c A R g cap w hl hr)
  generalize okG g = v at HV
  cases v with
  | false =>
    rw [err_and_f]
    go_enter Try.func85, Try.ntmps85
    go_wp2_with (fail)
    refine HV.out.mono ?_
    rintro e w1 ⟨rfl, hb1⟩
    rw [errB_f]
    go_wp2_with (fail)
    go_ret
    exact ⟨rfl, hb1⟩
  | true =>
    rw [err_and_t]
    by_cases h0 : row.length = 0
    · rw [okR_len (inB_no.2 (by omega))]
      have h0' : ((row.length : Int) = 0) := by omega
      go_enter Try.func85, Try.ntmps85
      go_wp2_with (fail)
      refine HV.out.mono ?_
      rintro e w1 ⟨rfl, hb1⟩
      rw [errB_t]
      go_wp2_with (fail)
      go_ret
      exact ⟨rfl, hb1⟩
    · have h0' : ¬ ((row.length : Int) = 0) := by omega
      by_cases h5 : 5 < row.length
      · rw [okR_len (inB_no.2 (by omega))]
        have h5' : (5 : Int) < (row.length : Int) := by omega
        go_enter Try.func85, Try.ntmps85
        go_wp2_with (fail)
        refine HV.out.mono ?_
        rintro e w1 ⟨rfl, hb1⟩
        rw [errB_t]
        go_wp2_with (fail)
        go_ret
        exact ⟨rfl, hb1⟩
      · have h5' : ¬ (5 : Int) < (row.length : Int) := by omega
        have hpos : (0 : Int) < (row.length : Int) := by omega
        have hposn : 0 < row.length := by omega
        have hne : ¬ row = [] := by rintro rfl; simp at hposn
        have hq : ((row.length : Int) == 0) = false := by simp; omega
        rw [okR_each (inB_z.2 (by omega))]
        have HE := fun w1 (hb : Below w.heap.size w w1) => Lib.hid (validateEach_c B S row cap' g.length 1000 w1 hl'.1 hl'.2 (by decide) (hs.later hb))
        generalize eachN row g.length 1000 row.length = v at HE
        clear hl
        go_enter Try.func85, Try.ntmps85
        go_wp2_with (fail)
        refine HV.out.mono ?_
        rintro e w1 ⟨rfl, hb1⟩
        rw [errB_t]
        go_wp2_with (fail)
        refine (HE _ hb1).out.mono ?_
        rintro e w2 ⟨rfl, hb2⟩
        go_wp2_with (fail)
        go_ret
        exact ⟨rfl, bl_call hb1 hb2⟩
/-- Two rows, one row. -/
def two (A B : Option Addr) (c d : Nat) : Rows := fun k => if k = 0 then (A, c) else (B, d)
theorem rt_two {w : World} {A B : Option Addr} {a b : List Int} {c d : Nat} (T : TypeId) (ha : Rd w A (ints a)) (hb : Rd w B (ints b)) : RT (w.alloc (.cells #[.slice A a.length c, .slice B b.length d] T)) (some ⟨w.heap.size, 0, none⟩) (two A B c d) [a, b] := by
  have hb0 := bl_alloc (Below.refl w.heap.size w) (.cells #[.slice A a.length c, .slice B b.length d] T)
  refine ⟨Bx.rd (Bx.new w T _), fun k hk => ?_⟩
  match k, hk with
  | 0, _ => exact ha.later hb0
  | 1, _ => exact hb.later hb0
theorem rt_one {w : World} {A : Option Addr} {a : List Int} {c : Nat} (T : TypeId) (ha : Rd w A (ints a)) : RT (w.alloc (.cells #[.slice A a.length c] T)) (some ⟨w.heap.size, 0, none⟩) (two A A c c) [a] := by
  have hb0 := bl_alloc (Below.refl w.heap.size w) (.cells #[.slice A a.length c] T)
  refine ⟨Bx.rd (Bx.new w T _), fun k hk => ?_⟩
  match k, hk with
  | 0, _ => exact ha.later hb0
def okTwo (a b : List Int) : Bool := inB (a.length : Int) 1 3 && (okN a a.length 3 && okN b a.length 3)
theorem okTwo_each {a b : List Int} (h : inB (a.length : Int) 1 3 = true) : okTwo a b = eachN [a, b] a.length 3 [a, b].length := by
  unfold okTwo; rw [h]
  show _ = ((true && _) && _)
  rfl
theorem okTwo_len {a b : List Int} (h : inB (a.length : Int) 1 3 = false) : okTwo a b = false := by unfold okTwo; rw [h]; rfl
set_option maxHeartbeats 1000000 in
theorem validateTwo_c (A B : Option Addr) (a b : List Int) (cap cap' : Nat) (w : World) (hl : a.length ≤ 1000) (hl' : b.length ≤ 1000) (hr : Rd w A (ints a)) (hs : Rd w B (ints b)) :
    Calls Try.prog 77 #[.slice A a.length cap, .slice B b.length cap'] w fun e w' => e = .returned (.int .i64 (errB (okTwo a b))) ∧ Below w.heap.size w w' := by
  have HW := fun w => Lib.hid (isWires_c (a.length : Int) w)
  have H1 := Lib.hid (@okTwo_len a b)
  have H2 := Lib.hid (@okTwo_each a b)
  have hrt := rt_two (c := cap) (d := cap') 23 hr hs
  have HE := Lib.hid (validateEach_c _ (two A B cap cap') [a, b] 2 a.length 3 _ (by simp) (fun k hk => by
    match k, hk with
    | 0, _ => exact hl
    | 1, _ => exact hl') (by decide) hrt)
  have hb0 := bl_alloc (Below.refl w.heap.size w) (.cells #[.slice A a.length cap, .slice B b.length cap'] 23)
  clear hrt hr hs
  generalize inB (a.length : Int) 1 3 = v at HW H1 H2
  cases v with
  | false =>
    have H3 := Lib.hid (H1.out rfl)
    clear H1 H2 HE
    go_enter Try.func77, Try.ntmps77
    go_wp2_with (fail)
    refine (HW _).out.mono ?_
    rintro e w1 ⟨rfl, rfl⟩
    go_wp2_with (fail)
    go_ret
    exact ⟨ret_i (by rw [H3.out]; rfl), Below.refl _ _⟩
  | true =>
    have H3 := Lib.hid (H2.out rfl)
    clear H1 H2
    generalize eachN [a, b] a.length 3 [a, b].length = r at HE H3
    go_enter Try.func77, Try.ntmps77
    go_wp2_with (fail)
    refine (HW _).out.mono ?_
    rintro e w1 ⟨rfl, rfl⟩
    go_wp2_with (fail)
    refine HE.out.mono ?_
    rintro e w1 ⟨rfl, hb1⟩
    go_wp2_with (fail)
    go_ret
    exact ⟨ret_i (by rw [H3.out]), bl_call hb0 hb1⟩
end Go.Proofs.Ytmmjdabioolodaa
