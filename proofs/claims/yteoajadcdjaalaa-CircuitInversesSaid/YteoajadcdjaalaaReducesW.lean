/- The document's Reduce and Equal; the walk of the law on what is left of a circuit. -/
import Derived.Test.YteoajadcdjaalaaRreduce
import Derived.Test.YteoajadcdjaalaaFirstsW
namespace Go.Proofs.Yteoajadcdjaalaa
open Go.RowKit

theorem redL_len (n : Int) {l : List G} (h : l.length ≤ 1000) : (redL n l).length ≤ 1000 := by
  rw [redL]; split
  · rw [red_len]; have := shortL_len l; omega
  · simp
theorem validE_ang {n : Int} {l : List G} (h : validE n l = 0) : AngL l := (gatesE_ang h).2.1

set_option maxRecDepth 100000 in
theorem rReduce_c (n : Int) (A : Option Addr) (l : List G) (c : Nat) (w : World) (hlen : l.length ≤ 1000) (hr : Rd w A (cellsG l)) :
    Calls Try.prog 42 #[.int .i64 n, .slice A l.length c] w (OutG (redL n l) (validE n l) w) := by
  have HV := Lib.hid (rvalidate_c n A l c w hlen hr)
  by_cases hv : validE n l = 0
  · have HS := fun (w1 : World) (h : Rd w1 A (cellsG l)) => Lib.hid (rreduce_c A l c w1 hlen (validE_gs hv) (validE_ang hv) h)
    have HB : redL n l = reducedL l := by rw [redL, if_pos hv]
    rw [hv] at HV
    rw [hv, HB]
    clear HB
    generalize reducedL l = R at *
    go_enter Try.func42, Try.ntmps42
    go_wp2_with (go_at_call 25; refine HV.out.mono ?_; rintro e w1 ⟨rfl, hb1⟩)
    refine (HS _ (hr.later hb1)).out.mono ?_
    rintro e w2 ⟨A2, c2, rfl, ho2, hb2⟩
    go_wp2_with (fail)
    go_ret2
    exact ⟨A2, c2, rfl, own_base ho2 hb1.size, bl_call hb1 hb2⟩
  · have HB : redL n l = [] := by rw [redL, if_neg hv]
    rw [HB]
    clear HB
    generalize validE n l = ev at hv HV
    go_enter Try.func42, Try.ntmps42
    go_wp2_with (go_at_call 25; refine HV.out.mono ?_; rintro e w1 ⟨rfl, hb1⟩)
    go_ret2
    exact ⟨none, 0, rfl, World.ownsRow_nil _ _ _ _, hb1⟩

theorem equal_red {n : Int} {l : List G} (h : validE n l = 0) : equalB n (reducedL l) l = true ∧ bothE n (reducedL l) l = 0 ∧ validE n (reducedL l) = 0 ∧ redL n (reducedL l) = reducedL l := by
  have hv := validE_red h
  have hb : bothE n (reducedL l) l = 0 := by rw [bothE, if_pos hv, h]
  exact ⟨by rw [equalB, hb, red_again]; simp [sameL], hb, hv, by rw [redL, if_pos hv, red_again]⟩

set_option maxRecDepth 100000 in
set_option maxHeartbeats 2000000 in
theorem circuitReduces_walk (n : Int) (A : Option Addr) (l : List G) (c : Nat) (w : World) (_hn : (Lit.int .i64 n).wf = true) (hr : Rd w A (cellsG l)) :
    Calls Try.prog 11 #[.int .i64 n, .slice A l.length c] w fun e w' => e = .returned (.bool true) ∧ Below w.heap.size w w' := by
  have HL := fun w => Lib.hid (long_c A l.length c w)
  have HK := fun w => Lib.hid (known_c w)
  by_cases hlong : 50 < l.length
  · rw [decide_eq_true hlong] at HL
    go_enter Try.func11, Try.ntmps11
    go_wp2_with (fail)
    refine (HL _).out.mono ?_
    rintro e w1 ⟨rfl, rfl⟩
    go_wp2_with (fail)
    refine (HK _).out.mono ?_
    rintro e w2 ⟨rfl, hb2⟩
    go_wp2_with (fail)
    go_ret
    exact ⟨rfl, hb2⟩
  · rw [decide_eq_false hlong] at HL
    have hlen : l.length ≤ 1000 := by omega
    clear hlong
    have H1 := Lib.hid (Reduce_c n A l c w hlen hr)
    have H2 := fun w1 hr1 => Lib.hid (rReduce_c n A l c w1 hlen hr1)
    have hrl := redL_len n hlen
    have H3 := fun B d w1 hr1 => Lib.hid (Reduce_c n B (redL n l) d w1 hrl hr1)
    have H4 := fun B d w1 hr1 hr2 => Lib.hid (Equal_c n B A (redL n l) l d c w1 hrl hlen hr1 hr2)
    have HV : Hid (validE n l = 0 → equalB n (redL n l) l = true ∧ bothE n (redL n l) l = 0 ∧ validE n (redL n l) = 0 ∧ redL n (redL n l) = redL n l) := fun h => by
      have hr : redL n l = reducedL l := by rw [redL, if_pos h]
      rw [hr]; exact equal_red h
    generalize equalB n (redL n l) l = eb at *
    generalize bothE n (redL n l) l = ee at *
    generalize validE n (redL n l) = er at *
    generalize redL n (redL n l) = RR at *
    generalize redL n l = R at *
    generalize validE n l = ev at *
    have HS := fun B1 B2 d1 d2 w1 h1 h2 => Lib.hid (same_c B1 B2 R R d1 d2 w1 hrl h1 h2)
    rw [show sameL R R = true by simp [sameL]] at HS
    go_enter Try.func11, Try.ntmps11
    go_wp2_with (fail)
    refine (HL _).out.mono ?_
    rintro e w1 ⟨rfl, rfl⟩
    go_wp2_with (fail)
    refine H1.out.mono ?_
    rintro e w1 ⟨A1, c1, rfl, ho1, hb1⟩
    go_wp2_with (fail)
    refine (H2 _ (hr.later hb1)).out.mono ?_
    rintro e w2 ⟨A2, c2, rfl, ho2, hb2⟩
    have hb12 := bl_call hb1 hb2
    have hr1 := (own_rd ho1).1.later hb2
    have HS1 := HS A1 A2 c1 c2 w2 hr1 (own_rd ho2).1
    go_wp2_with (fail)
    refine HS1.out.mono ?_
    rintro e w3 ⟨rfl, hb3⟩
    have hb13 := bl_call hb12 hb3
    have hr3 := hr1.later hb3
    by_cases hv : ev = 0
    · obtain ⟨rfl, rfl, rfl, rfl⟩ := HV.out hv
      subst hv
      have H3' := H3 A1 c1 w3 hr3
      clear HV H1 H2 H3 HS1
      go_wp2_with (fail)
      refine H3'.out.mono ?_
      rintro e w4 ⟨A4, c4, rfl, ho4, hb4⟩
      have hb14 := bl_call hb13 hb4
      have hr4 := hr3.later hb4
      have H4' := H4 A1 c1 w4 hr4 (hr.later hb14)
      clear H3' H4
      go_wp2_with (fail)
      refine H4'.out.mono ?_
      rintro e w5 ⟨rfl, hb5⟩
      have hb15 := bl_call hb14 hb5
      have HS2 := HS A4 A1 c4 c1 w5 ((own_rd ho4).1.later hb5) (hr4.later hb5)
      clear H4' HS
      go_wp2_with (fail)
      refine HS2.out.mono ?_
      rintro e w6 ⟨rfl, hb6⟩
      have hb16 := bl_call hb15 hb6
      go_wp2_with (fail)
      refine (HK _).out.mono ?_
      rintro e w7 ⟨rfl, hb7⟩
      go_wp2_with (fail)
      go_ret
      exact ⟨rfl, bl_call hb16 hb7⟩
    · clear HV H3 H4 HS
      go_wp2_with (fail)
      refine (HK _).out.mono ?_
      rintro e w5 ⟨rfl, hb5⟩
      go_wp2_with (fail)
      go_ret
      exact ⟨rfl, bl_call hb13 hb5⟩
end Go.Proofs.Yteoajadcdjaalaa
