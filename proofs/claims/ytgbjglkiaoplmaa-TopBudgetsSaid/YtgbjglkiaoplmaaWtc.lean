/- With and CheckChoice: package budget's and the document's. -/
import Derived.Test.YtgbjglkiaoplmaaRwi
import Derived.Test.YtgbjglkiaoplmaaRch
import Derived.Test.YtgbjglkiaoplmaaRvf
import Derived.Test.YtgbjglkiaoplmaaCls
import Derived.Test.YtgbjglkiaoplmaaRtt
namespace Go.Proofs.Ytgbjglkiaoplmaa
open Go.RowKit

def wtE (l : List It) (fs : List Fx) (c : List Int) : Int := if vfE l fs = 0 then choE fs c else vfE l fs
def wtL (l : List It) (fs : List Fx) (c : List Int) : List It := if wtE l fs c = 0 then (withL l fs c).1 else []
def wtK (l : List It) (fs : List Fx) (c : List Int) : Int := if wtE l fs c = 0 then (withL l fs c).2 else 0
/-- The budget with a choice, its cost, and an error. -/
def OutWt (L : List It) (k z : Int) (w : World) (e : Ending) (w' : World) : Prop :=
  ∃ A c, e = .returned (.tuple #[.slice A L.length c, .int .i64 k, .int .i64 z]) ∧ w'.ownsRow w.heap.size 50 3 (.slice A L.length c) L.length (cellsI L) ∧ Below w.heap.size w w'
theorem fix_items {l : List It} {fs : List Fx} (h : vfE l fs = 0) : ∀ k, k < fs.length → 0 ≤ (fs.getD k fx0).i ∧ (fs.getD k fx0).i < 6 := fun k hk => by
  have h1 := (fixB_iff.1 ((vfE_ok h).2.2 k hk)).1
  have h2 := (valE_ok (vfE_ok h).1).1
  omega
set_option maxRecDepth 100000 in
set_option maxHeartbeats 4000000 in
theorem With_c (A : Option Addr) (l : List It) (cap : Nat) (B : Option Addr) (fs : List Fx) (cap2 : Nat) (C : Option Addr) (c : List Int) (cap3 : Nat) (w : World) (hlen : l.length ≤ 1000) (hlen2 : fs.length ≤ 1000) (hlen3 : c.length ≤ 1000) (hr : Rd w A (cellsI l)) (hf : Rd w B (cellsF fs)) (hk : Rd w C (ints c)) :
    Calls Try.prog 36 #[.slice A l.length cap, .slice B fs.length cap2, .slice C c.length cap3] w (OutWt (wtL l fs c) (wtK l fs c) (wtE l fs c) w) := by
  have HV := Lib.hid (ValidateFixes_c A l cap B fs cap2 w hlen hlen2 hr hf)
  by_cases hv : vfE l fs = 0
  · have HC := fun w hf hk => Lib.hid (validateChoice_c B fs cap2 C c cap3 w hlen3 (fix_items hv) hf hk)
    by_cases hc : choE fs c = 0
    · have hE : wtE l fs c = 0 := by unfold wtE; rw [if_pos hv, hc]
      have hL : wtL l fs c = (withL l fs c).1 := by unfold wtL; rw [if_pos hE]
      have hK : wtK l fs c = (withL l fs c).2 := by unfold wtK; rw [if_pos hE]
      have HW := fun w hr hf hk => Lib.hid (with_c A l cap B fs cap2 C c cap3 w hv (cho_in (cho_iff.1 hc)) hlen3 hr hf hk)
      have HWL : Hid ((withL l fs c).1.length = l.length) := withL_len l fs c
      rw [hv] at HV
      rw [hc] at HC
      rw [hE, hL, hK]
      clear hE hL hK hc hv
      generalize withL l fs c = wl at *
      go_enter Try.func36, Try.ntmps36
      go_wp2_with (fail)
      refine HV.out.mono ?_
      rintro e w1 ⟨rfl, hb1⟩
      go_wp2_with (fail)
      refine (HC _ (hf.later hb1) (hk.later hb1)).out.mono ?_
      rintro e w2 ⟨rfl, hb2⟩
      have hb02 := bl_call hb1 hb2
      go_wp2_with (fail)
      refine (HW _ (hr.later hb02) (hf.later hb02) (hk.later hb02)).out.mono ?_
      rintro e w3 ⟨A3, c3, rfl, ho3, hb3⟩
      go_wp2_with (fail)
      go_ret3
      exact ⟨A3, c3, by rw [HWL.out]; rfl, by rw [HWL.out]; exact own_base ho3 hb02.size, bl_call hb02 hb3⟩
    · have hE : wtE l fs c = choE fs c := by unfold wtE; rw [if_pos hv]
      have hL : wtL l fs c = [] := by unfold wtL; rw [hE, if_neg hc]
      have hK : wtK l fs c = 0 := by unfold wtK; rw [hE, if_neg hc]
      have hc' : (choE fs c == 0) = false := by rw [beq_eq_false_iff_ne]; exact hc
      rw [hv] at HV
      rw [hE, hL, hK]
      clear hE hL hK hv
      generalize choE fs c = z at *
      go_enter Try.func36, Try.ntmps36
      go_wp2_with (fail)
      refine HV.out.mono ?_
      rintro e w1 ⟨rfl, hb1⟩
      go_wp2_with (fail)
      refine (HC _ (hf.later hb1) (hk.later hb1)).out.mono ?_
      rintro e w2 ⟨rfl, hb2⟩
      go_wp2_with (fail)
      go_ret3
      exact ⟨none, 0, rfl, World.ownsRow_nil _ _ _ _, bl_call hb1 hb2⟩
  · have hE : wtE l fs c = vfE l fs := by unfold wtE; rw [if_neg hv]
    have hL : wtL l fs c = [] := by unfold wtL; rw [hE, if_neg hv]
    have hK : wtK l fs c = 0 := by unfold wtK; rw [hE, if_neg hv]
    have hv' : (vfE l fs == 0) = false := by rw [beq_eq_false_iff_ne]; exact hv
    rw [hE, hL, hK]
    clear hE hL hK
    generalize vfE l fs = z at *
    go_enter Try.func36, Try.ntmps36
    go_wp2_with (fail)
    refine HV.out.mono ?_
    rintro e w1 ⟨rfl, hb1⟩
    go_wp2_with (fail)
    go_ret3
    exact ⟨none, 0, rfl, World.ownsRow_nil _ _ _ _, hb1⟩
set_option maxRecDepth 100000 in
set_option maxHeartbeats 4000000 in
theorem rWith_c (A : Option Addr) (l : List It) (cap : Nat) (B : Option Addr) (fs : List Fx) (cap2 : Nat) (C : Option Addr) (c : List Int) (cap3 : Nat) (w : World) (hlen : l.length ≤ 1000) (hlen2 : fs.length ≤ 1000) (hlen3 : c.length ≤ 1000) (hr : Rd w A (cellsI l)) (hf : Rd w B (cellsF fs)) (hk : Rd w C (ints c)) :
    Calls Try.prog 37 #[.slice A l.length cap, .slice B fs.length cap2, .slice C c.length cap3] w (OutWt (wtL l fs c) (wtK l fs c) (wtE l fs c) w) := by
  have HV := Lib.hid (rValidateFixes_c A l cap B fs cap2 w hlen hlen2 hr hf)
  by_cases hv : vfE l fs = 0
  · have HC := fun w hf hk => Lib.hid (rchosen_c B fs cap2 C c cap3 w hlen3 hlen2 hf hk)
    by_cases hc : choE fs c = 0
    · have hE : wtE l fs c = 0 := by unfold wtE; rw [if_pos hv, hc]
      have hL : wtL l fs c = (withL l fs c).1 := by unfold wtL; rw [if_pos hE]
      have hK : wtK l fs c = (withL l fs c).2 := by unfold wtK; rw [if_pos hE]
      have HW := fun w hr hf hk => Lib.hid (rwith_c A l cap B fs cap2 C c cap3 w hv (cho_in (cho_iff.1 hc)) hlen3 hr hf hk)
      have HWL : Hid ((withL l fs c).1.length = l.length) := withL_len l fs c
      rw [hv] at HV
      rw [hc] at HC
      rw [hE, hL, hK]
      clear hE hL hK hc hv
      generalize withL l fs c = wl at *
      go_enter Try.func37, Try.ntmps37
      go_wp2_with (fail)
      refine HV.out.mono ?_
      rintro e w1 ⟨rfl, hb1⟩
      go_wp2_with (fail)
      refine (HC _ (hf.later hb1) (hk.later hb1)).out.mono ?_
      rintro e w2 ⟨rfl, hb2⟩
      have hb02 := bl_call hb1 hb2
      go_wp2_with (fail)
      refine (HW _ (hr.later hb02) (hf.later hb02) (hk.later hb02)).out.mono ?_
      rintro e w3 ⟨A3, c3, rfl, ho3, hb3⟩
      go_wp2_with (fail)
      go_ret3
      exact ⟨A3, c3, by rw [HWL.out]; rfl, by rw [HWL.out]; exact own_base ho3 hb02.size, bl_call hb02 hb3⟩
    · have hE : wtE l fs c = choE fs c := by unfold wtE; rw [if_pos hv]
      have hL : wtL l fs c = [] := by unfold wtL; rw [hE, if_neg hc]
      have hK : wtK l fs c = 0 := by unfold wtK; rw [hE, if_neg hc]
      have hc' : (choE fs c == 0) = false := by rw [beq_eq_false_iff_ne]; exact hc
      rw [hv] at HV
      rw [hE, hL, hK]
      clear hE hL hK hv
      generalize choE fs c = z at *
      go_enter Try.func37, Try.ntmps37
      go_wp2_with (fail)
      refine HV.out.mono ?_
      rintro e w1 ⟨rfl, hb1⟩
      go_wp2_with (fail)
      refine (HC _ (hf.later hb1) (hk.later hb1)).out.mono ?_
      rintro e w2 ⟨rfl, hb2⟩
      go_wp2_with (fail)
      go_ret3
      exact ⟨none, 0, rfl, World.ownsRow_nil _ _ _ _, bl_call hb1 hb2⟩
  · have hE : wtE l fs c = vfE l fs := by unfold wtE; rw [if_neg hv]
    have hL : wtL l fs c = [] := by unfold wtL; rw [hE, if_neg hv]
    have hK : wtK l fs c = 0 := by unfold wtK; rw [hE, if_neg hv]
    have hv' : (vfE l fs == 0) = false := by rw [beq_eq_false_iff_ne]; exact hv
    rw [hE, hL, hK]
    clear hE hL hK
    generalize vfE l fs = z at *
    go_enter Try.func37, Try.ntmps37
    go_wp2_with (fail)
    refine HV.out.mono ?_
    rintro e w1 ⟨rfl, hb1⟩
    go_wp2_with (fail)
    go_ret3
    exact ⟨none, 0, rfl, World.ownsRow_nil _ _ _ _, hb1⟩
set_option maxHeartbeats 2000000 in
theorem rlimited_c (A : Option Addr) (l : List It) (cap : Nat) (B : Option Addr) (fs : List Fx) (cap2 : Nat) (n d : Int) (w : World) (hlen : l.length ≤ 1000) (hlen2 : fs.length ≤ 1000) (hr : Rd w A (cellsI l)) (hf : Rd w B (cellsF fs)) :
    Calls Try.prog 84 #[.slice A l.length cap, .slice B fs.length cap2, .agg #[.int .i64 n, .int .i64 d]] w fun e w' => e = .returned (.int .i64 (byE l fs n d)) ∧ Below w.heap.size w w' := by
  have hb0 := bl_alloc (Below.refl w.heap.size w) (.cells #[.int .i64 n, .int .i64 d] 30)
  have x0 : Bx (w.alloc (.cells #[.int .i64 n, .int .i64 d] 30)) w.heap.size 30 #[.int .i64 n, .int .i64 d] := Bx.new w _ _
  have HV := Lib.hid (rValidateFixes_c A l cap B fs cap2 _ hlen hlen2 (hr.later hb0) (hf.later hb0))
  have HL := fun w => Lib.hid (risLimit_c n d w)
  unfold byE
  by_cases hv : vfE l fs = 0
  · rw [if_pos hv]
    rw [hv] at HV
    clear hv
    cases hz : limB n d with
    | true =>
      rw [hz] at HL
      clear hz
      go_enter Try.func84, Try.ntmps84
      go_wp2_with (fail)
      refine HV.out.mono ?_
      rintro e w1 ⟨rfl, hb1⟩
      obtain ⟨y0, y1, _, _⟩ := (x0.call hb1).two
      have hb01 := bl_call hb0 hb1
      go_wp2_with (fail)
      refine (HL _).out.mono ?_
      rintro e w2 ⟨rfl, hb2⟩
      go_wp2_with (fail)
      go_ret
      exact ⟨rfl, bl_call hb01 hb2⟩
    | false =>
      rw [hz] at HL
      clear hz
      go_enter Try.func84, Try.ntmps84
      go_wp2_with (fail)
      refine HV.out.mono ?_
      rintro e w1 ⟨rfl, hb1⟩
      obtain ⟨y0, y1, _, _⟩ := (x0.call hb1).two
      have hb01 := bl_call hb0 hb1
      go_wp2_with (fail)
      refine (HL _).out.mono ?_
      rintro e w2 ⟨rfl, hb2⟩
      go_wp2_with (fail)
      go_ret
      exact ⟨rfl, bl_call hb01 hb2⟩
  · rw [if_neg hv]
    have hv' : (vfE l fs == 0) = false := by rw [beq_eq_false_iff_ne]; exact hv
    generalize vfE l fs = z at *
    go_enter Try.func84, Try.ntmps84
    go_wp2_with (fail)
    refine HV.out.mono ?_
    rintro e w1 ⟨rfl, hb1⟩
    go_wp2_with (fail)
    go_ret
    exact ⟨rfl, bl_call hb0 hb1⟩
def ckE (l : List It) (fs : List Fx) (m e : Int) (c : List Int) : Int := if byE l fs m e = 0 then (if choE fs c = 0 then (if closeB (withL l fs c).1 m e = true then 0 else 8) else choE fs c) else byE l fs m e
def ckK (l : List It) (fs : List Fx) (m e : Int) (c : List Int) : Int := if ckE l fs m e c = 0 then (withL l fs c).2 else 0
theorem byE_ok2 {l : List It} {fs : List Fx} {m e : Int} (h : byE l fs m e = 0) : vfE l fs = 0 ∧ limB m e = true := by
  unfold byE at h
  split at h
  · rename_i h0
    split at h
    · rename_i h1; exact ⟨h0, h1⟩
    · cases h
  · rename_i h0; exact absurd h h0
set_option maxRecDepth 100000 in
set_option maxHeartbeats 4000000 in
theorem CheckChoice_c (A : Option Addr) (l : List It) (cap : Nat) (B : Option Addr) (fs : List Fx) (cap2 : Nat) (m e : Int) (C : Option Addr) (c : List Int) (cap3 : Nat) (w : World) (hlen : l.length ≤ 1000) (hlen2 : fs.length ≤ 1000) (hlen3 : c.length ≤ 1000) (hr : Rd w A (cellsI l)) (hf : Rd w B (cellsF fs)) (hk : Rd w C (ints c)) :
    Calls Try.prog 45 #[.slice A l.length cap, .slice B fs.length cap2, .agg #[.int .i64 m, .int .i64 e], .slice C c.length cap3] w fun f w' => f = .returned (.tuple #[.int .i64 (ckK l fs m e c), .int .i64 (ckE l fs m e c)]) ∧ Below w.heap.size w w' := by
  have hk0 := bl_alloc (Below.refl w.heap.size w) (.cells #[.int .i64 m, .int .i64 e] 30)
  have xm0 : Bx (w.alloc (.cells #[.int .i64 m, .int .i64 e] 30)) w.heap.size 30 #[.int .i64 m, .int .i64 e] := Bx.new w _ _
  obtain ⟨fm0, fm1, _, _⟩ := xm0.two
  have HV := Lib.hid (validateBy_c A l cap B fs cap2 m e _ hlen hlen2 (hr.later hk0) (hf.later hk0))
  by_cases hv : byE l fs m e = 0
  rotate_left
  · have hE : ckE l fs m e c = byE l fs m e := by unfold ckE; rw [if_neg hv]
    have hK : ckK l fs m e c = 0 := by unfold ckK; rw [hE, if_neg hv]
    have hv' : (byE l fs m e == 0) = false := by rw [beq_eq_false_iff_ne]; exact hv
    rw [hE, hK]
    clear hE hK
    generalize byE l fs m e = z at *
    go_enter Try.func45, Try.ntmps45
    go_wp2_with (fail)
    refine HV.out.mono ?_
    rintro f w1 ⟨rfl, hb1⟩
    go_wp2_with (fail)
    go_ret2
    exact ⟨rfl, bl_call hk0 hb1⟩
  · obtain ⟨hvf, hL⟩ := byE_ok2 hv
    have HC := fun w hf hk => Lib.hid (validateChoice_c B fs cap2 C c cap3 w hlen3 (fix_items hvf) hf hk)
    rw [hv] at HV
    by_cases hc : choE fs c = 0
    rotate_left
    · have hE : ckE l fs m e c = choE fs c := by unfold ckE; rw [if_pos hv, if_neg hc]
      have hK : ckK l fs m e c = 0 := by unfold ckK; rw [hE, if_neg hc]
      have hc' : (choE fs c == 0) = false := by rw [beq_eq_false_iff_ne]; exact hc
      rw [hE, hK]
      clear hE hK hv hvf hL
      generalize choE fs c = z at *
      go_enter Try.func45, Try.ntmps45
      go_wp2_with (fail)
      refine HV.out.mono ?_
      rintro f w1 ⟨rfl, hb1⟩
      have hb01 := bl_call hk0 hb1
      go_wp2_with (fail)
      refine (HC _ (hf.later hb01) (hk.later hb01)).out.mono ?_
      rintro f w2 ⟨rfl, hb2⟩
      go_wp2_with (fail)
      go_ret2
      exact ⟨rfl, bl_call hb01 hb2⟩
    · have HW := fun w hr hf hk => Lib.hid (with_c A l cap B fs cap2 C c cap3 w hvf (cho_in (cho_iff.1 hc)) hlen3 hr hf hk)
      have hvm := (with_ok hvf (cho_iff.1 hc)).1
      have HCl := fun D cap4 w hd => Lib.hid (closes_c D (withL l fs c).1 cap4 8 m e w (val_ok hvm) (valE_ok hvm).1 (by decide) hL hd)
      rw [withL_len] at HCl
      have hE : ckE l fs m e c = if closeB (withL l fs c).1 m e = true then 0 else 8 := by unfold ckE; rw [if_pos hv, if_pos hc]
      have hK : ckK l fs m e c = if closeB (withL l fs c).1 m e = true then (withL l fs c).2 else 0 := by
        unfold ckK; rw [hE]
        split <;> simp_all
      rw [hc] at HC
      rw [hE, hK]
      clear hE hK hv hvf hL hc hvm
      generalize closeB (withL l fs c).1 m e = z at *
      generalize withL l fs c = wl at *
      cases z with
      | true =>
        go_enter Try.func45, Try.ntmps45
        go_wp2_with (fail)
        refine HV.out.mono ?_
        rintro f w1 ⟨rfl, hb1⟩
        have hb01 := bl_call hk0 hb1
        have x1 := xm0.call hb1
        go_wp2_with (fail)
        refine (HC _ (hf.later hb01) (hk.later hb01)).out.mono ?_
        rintro f w2 ⟨rfl, hb2⟩
        have hb02 := bl_call hb01 hb2
        have x2 := x1.call hb2
        go_wp2_with (fail)
        refine (HW _ (hr.later hb02) (hf.later hb02) (hk.later hb02)).out.mono ?_
        rintro f w3 ⟨A3, c3, rfl, ho3, hb3⟩
        have hb03 := bl_call hb02 hb3
        obtain ⟨y0, y1, _, _⟩ := (x2.call hb3).two
        clear fm0 fm1
        go_wp2_with (fail)
        refine (HCl _ _ _ (own_rd ho3).1).out.mono ?_
        rintro f w4 ⟨rfl, hb4⟩
        go_wp2_with (fail)
        go_ret2
        exact ⟨rfl, bl_call hb03 hb4⟩
      | false =>
        go_enter Try.func45, Try.ntmps45
        go_wp2_with (fail)
        refine HV.out.mono ?_
        rintro f w1 ⟨rfl, hb1⟩
        have hb01 := bl_call hk0 hb1
        have x1 := xm0.call hb1
        go_wp2_with (fail)
        refine (HC _ (hf.later hb01) (hk.later hb01)).out.mono ?_
        rintro f w2 ⟨rfl, hb2⟩
        have hb02 := bl_call hb01 hb2
        have x2 := x1.call hb2
        go_wp2_with (fail)
        refine (HW _ (hr.later hb02) (hf.later hb02) (hk.later hb02)).out.mono ?_
        rintro f w3 ⟨A3, c3, rfl, ho3, hb3⟩
        have hb03 := bl_call hb02 hb3
        obtain ⟨y0, y1, _, _⟩ := (x2.call hb3).two
        clear fm0 fm1
        go_wp2_with (fail)
        refine (HCl _ _ _ (own_rd ho3).1).out.mono ?_
        rintro f w4 ⟨rfl, hb4⟩
        go_wp2_with (fail)
        go_ret2
        exact ⟨rfl, bl_call hb03 hb4⟩
set_option maxRecDepth 100000 in
set_option maxHeartbeats 4000000 in
theorem rCheckChoice_c (A : Option Addr) (l : List It) (cap : Nat) (B : Option Addr) (fs : List Fx) (cap2 : Nat) (m e : Int) (C : Option Addr) (c : List Int) (cap3 : Nat) (w : World) (hlen : l.length ≤ 1000) (hlen2 : fs.length ≤ 1000) (hlen3 : c.length ≤ 1000) (hr : Rd w A (cellsI l)) (hf : Rd w B (cellsF fs)) (hk : Rd w C (ints c)) :
    Calls Try.prog 46 #[.slice A l.length cap, .slice B fs.length cap2, .agg #[.int .i64 m, .int .i64 e], .slice C c.length cap3] w fun f w' => f = .returned (.tuple #[.int .i64 (ckK l fs m e c), .int .i64 (ckE l fs m e c)]) ∧ Below w.heap.size w w' := by
  have hk0 := bl_alloc (Below.refl w.heap.size w) (.cells #[.int .i64 m, .int .i64 e] 30)
  have xm0 : Bx (w.alloc (.cells #[.int .i64 m, .int .i64 e] 30)) w.heap.size 30 #[.int .i64 m, .int .i64 e] := Bx.new w _ _
  obtain ⟨fm0, fm1, _, _⟩ := xm0.two
  have HV := Lib.hid (rlimited_c A l cap B fs cap2 m e _ hlen hlen2 (hr.later hk0) (hf.later hk0))
  by_cases hv : byE l fs m e = 0
  rotate_left
  · have hE : ckE l fs m e c = byE l fs m e := by unfold ckE; rw [if_neg hv]
    have hK : ckK l fs m e c = 0 := by unfold ckK; rw [hE, if_neg hv]
    have hv' : (byE l fs m e == 0) = false := by rw [beq_eq_false_iff_ne]; exact hv
    rw [hE, hK]
    clear hE hK
    generalize byE l fs m e = z at *
    go_enter Try.func46, Try.ntmps46
    go_wp2_with (fail)
    refine HV.out.mono ?_
    rintro f w1 ⟨rfl, hb1⟩
    go_wp2_with (fail)
    go_ret2
    exact ⟨rfl, bl_call hk0 hb1⟩
  · obtain ⟨hvf, hL⟩ := byE_ok2 hv
    have HC := fun w hf hk => Lib.hid (rchosen_c B fs cap2 C c cap3 w hlen3 hlen2 hf hk)
    rw [hv] at HV
    by_cases hc : choE fs c = 0
    rotate_left
    · have hE : ckE l fs m e c = choE fs c := by unfold ckE; rw [if_pos hv, if_neg hc]
      have hK : ckK l fs m e c = 0 := by unfold ckK; rw [hE, if_neg hc]
      have hc' : (choE fs c == 0) = false := by rw [beq_eq_false_iff_ne]; exact hc
      rw [hE, hK]
      clear hE hK hv hvf hL
      generalize choE fs c = z at *
      go_enter Try.func46, Try.ntmps46
      go_wp2_with (fail)
      refine HV.out.mono ?_
      rintro f w1 ⟨rfl, hb1⟩
      have hb01 := bl_call hk0 hb1
      go_wp2_with (fail)
      refine (HC _ (hf.later hb01) (hk.later hb01)).out.mono ?_
      rintro f w2 ⟨rfl, hb2⟩
      go_wp2_with (fail)
      go_ret2
      exact ⟨rfl, bl_call hb01 hb2⟩
    · have HW := fun w hr hf hk => Lib.hid (rwith_c A l cap B fs cap2 C c cap3 w hvf (cho_in (cho_iff.1 hc)) hlen3 hr hf hk)
      have hvm := (with_ok hvf (cho_iff.1 hc)).1
      have HCl := fun D cap4 w hd => Lib.hid (rcloses_c D (withL l fs c).1 cap4 8 m e w (val_ok hvm) (valE_ok hvm).1 (by decide) hL hd)
      rw [withL_len] at HCl
      have hE : ckE l fs m e c = if closeB (withL l fs c).1 m e = true then 0 else 8 := by unfold ckE; rw [if_pos hv, if_pos hc]
      have hK : ckK l fs m e c = if closeB (withL l fs c).1 m e = true then (withL l fs c).2 else 0 := by
        unfold ckK; rw [hE]
        split <;> simp_all
      rw [hc] at HC
      rw [hE, hK]
      clear hE hK hv hvf hL hc hvm
      generalize closeB (withL l fs c).1 m e = z at *
      generalize withL l fs c = wl at *
      cases z with
      | true =>
        go_enter Try.func46, Try.ntmps46
        go_wp2_with (fail)
        refine HV.out.mono ?_
        rintro f w1 ⟨rfl, hb1⟩
        have hb01 := bl_call hk0 hb1
        have x1 := xm0.call hb1
        go_wp2_with (fail)
        refine (HC _ (hf.later hb01) (hk.later hb01)).out.mono ?_
        rintro f w2 ⟨rfl, hb2⟩
        have hb02 := bl_call hb01 hb2
        have x2 := x1.call hb2
        go_wp2_with (fail)
        refine (HW _ (hr.later hb02) (hf.later hb02) (hk.later hb02)).out.mono ?_
        rintro f w3 ⟨A3, c3, rfl, ho3, hb3⟩
        have hb03 := bl_call hb02 hb3
        obtain ⟨y0, y1, _, _⟩ := (x2.call hb3).two
        clear fm0 fm1
        go_wp2_with (fail)
        refine (HCl _ _ _ (own_rd ho3).1).out.mono ?_
        rintro f w4 ⟨rfl, hb4⟩
        go_wp2_with (fail)
        go_ret2
        exact ⟨rfl, bl_call hb03 hb4⟩
      | false =>
        go_enter Try.func46, Try.ntmps46
        go_wp2_with (fail)
        refine HV.out.mono ?_
        rintro f w1 ⟨rfl, hb1⟩
        have hb01 := bl_call hk0 hb1
        have x1 := xm0.call hb1
        go_wp2_with (fail)
        refine (HC _ (hf.later hb01) (hk.later hb01)).out.mono ?_
        rintro f w2 ⟨rfl, hb2⟩
        have hb02 := bl_call hb01 hb2
        have x2 := x1.call hb2
        go_wp2_with (fail)
        refine (HW _ (hr.later hb02) (hf.later hb02) (hk.later hb02)).out.mono ?_
        rintro f w3 ⟨A3, c3, rfl, ho3, hb3⟩
        have hb03 := bl_call hb02 hb3
        obtain ⟨y0, y1, _, _⟩ := (x2.call hb3).two
        clear fm0 fm1
        go_wp2_with (fail)
        refine (HCl _ _ _ (own_rd ho3).1).out.mono ?_
        rintro f w4 ⟨rfl, hb4⟩
        go_wp2_with (fail)
        go_ret2
        exact ⟨rfl, bl_call hb03 hb4⟩
end Go.Proofs.Ytgbjglkiaoplmaa
