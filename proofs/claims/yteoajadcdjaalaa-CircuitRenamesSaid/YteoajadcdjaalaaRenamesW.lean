/- The walk of the law on other numbers of the qubits. -/
import Derived.Test.YteoajadcdjaalaaRrenB
import Derived.Test.YteoajadcdjaalaaCntD
import Derived.Test.YteoajadcdjaalaaFirstsW
namespace Go.Proofs.Yteoajadcdjaalaa
open Go.RowKit

theorem renE_ok {n : Int} {l : List G} {to : List Int} (h : renE n l to = 0) : validE n l = 0 ∧ validE n (renL n l to) = 0 ∧ cntL (renL n l to) = cntL l ∧ (redL n (renL n l to)).length = (redL n l).length := by
  have hv : validE n l = 0 := by
    rw [renE] at h
    by_cases hv : validE n l = 0
    · exact hv
    · rw [if_neg hv] at h; exact absurd h hv
  have ho : ordB n to = true := by
    rw [renE, if_pos hv] at h
    cases hb : ordB n to
    · rw [hb] at h; simp at h
    · rfl
  have hg := validE_gates hv
  have e : renL n l to = l.map (renG to) := by rw [renL, if_pos ⟨hv, ho⟩]
  have hv2 : validE n (l.map (renG to)) = 0 := validE_of hv (by simp) (fun x hx => by
    obtain ⟨y, hy, rfl⟩ := List.mem_map.1 hx
    exact ren_gate ho (hg y hy))
  rw [e]
  refine ⟨hv, hv2, ren_cnt ho hg, ?_⟩
  rw [redL, redL, if_pos hv, if_pos hv2]
  exact ren_red ho hg
theorem renL_len (n : Int) (l : List G) (to : List Int) : (renL n l to).length ≤ l.length := by
  unfold renL; split <;> simp

set_option maxRecDepth 100000 in
set_option maxHeartbeats 4000000 in
theorem circuitRenames_walk (n : Int) (A : Option Addr) (l : List G) (c : Nat) (B : Option Addr) (to : List Int) (d : Nat) (w : World) (_hn : (Lit.int .i64 n).wf = true) (hr : Rd w A (cellsG l)) (hs : Rd w B (ints to)) :
    Calls Try.prog 16 #[.int .i64 n, .slice A l.length c, .slice B to.length d] w fun e w' => e = .returned (.bool true) ∧ Below w.heap.size w w' := by
  have HL := fun w => Lib.hid (long_c A l.length c w)
  have HK := fun w => Lib.hid (known_c w)
  by_cases hlong : 50 < l.length
  · rw [decide_eq_true hlong] at HL
    go_enter Try.func16, Try.ntmps16
    go_wp2_with (fail)
    refine (HL _).out.mono ?_
    rintro e w1 ⟨rfl, rfl⟩
    go_wp2_with (fail)
    refine (HK _).out.mono ?_
    rintro e w2 ⟨rfl, hb2⟩
    go_wp2_with (fail)
    go_ret
    exact ⟨rfl, hb2⟩
  · rw [decide_eq_false hlong] at HL
    by_cases hto : 50 < to.length
    · have hto' : (50 : Int) < (to.length : Int) := by omega
      go_enter Try.func16, Try.ntmps16
      go_wp2_with (fail)
      refine (HL _).out.mono ?_
      rintro e w1 ⟨rfl, rfl⟩
      go_wp2_with (fail)
      refine (HK _).out.mono ?_
      rintro e w2 ⟨rfl, hb2⟩
      go_wp2_with (fail)
      go_ret
      exact ⟨rfl, hb2⟩
    · have hto' : ¬ (50 : Int) < (to.length : Int) := by omega
      have hlen : l.length ≤ 1000 := by omega
      have hlt : to.length ≤ 1000 := by omega
      have H1 := Lib.hid (Rename_c n A B l to c d w hlen hlt hr hs)
      have H2 := fun w1 h1 h2 => Lib.hid (rRename_c n A B l to c d w1 hlen hlt h1 h2)
      have hrl := renL_len n l to
      have HSM := fun (A1 A2 : Option Addr) (c1 c2 : Nat) w1 h1 h2 => Lib.hid (same_c A1 A2 (renL n l to) (renL n l to) c1 c2 w1 (by omega) h1 h2)
      rw [show sameL (renL n l to) (renL n l to) = true by simp [sameL]] at HSM
      have HC1 := fun w1 h1 => Lib.hid (Count_c n A l c w1 hlen h1)
      have HC2 := fun (A1 : Option Addr) (c1 : Nat) w1 h1 => Lib.hid (Count_c n A1 (renL n l to) c1 w1 (by omega) h1)
      have HR1 := fun w1 h1 => Lib.hid (Reduce_c n A l c w1 hlen h1)
      have HR2 := fun (A1 : Option Addr) (c1 : Nat) w1 h1 => Lib.hid (Reduce_c n A1 (renL n l to) c1 w1 (by omega) h1)
      by_cases hE : renE n l to = 0
      · obtain ⟨hv1, hv2, hc, hrr⟩ := renE_ok hE
        rw [hE] at H1 H2
        rw [if_pos hv1, hv1] at HC1
        rw [if_pos hv2, hv2, hc] at HC2
        rw [hv1] at HR1
        rw [hv2] at HR2
        have HRR := Lib.hid hrr
        clear hE hv1 hv2 hc hrr hlong hto hrl
        generalize renL n l to = m at *
        generalize redL n m = rm at *
        generalize redL n l = rl at *
        generalize cntL l = kc at *
        have hrr' : (rl.length : Int) = (rm.length : Int) := by have := HRR.out; omega
        have HRI := Lib.hid hrr'
        clear hrr'
        go_enter Try.func16, Try.ntmps16
        go_wp2_with (fail)
        refine (HL _).out.mono ?_
        rintro e w1 ⟨rfl, rfl⟩
        go_wp2_with (fail)
        refine H1.out.mono ?_
        rintro e w1 ⟨A1, c1, rfl, ho1, hb1⟩
        go_wp2_with (fail)
        refine (H2 _ (hr.later hb1) (hs.later hb1)).out.mono ?_
        rintro e w2 ⟨A2, c2, rfl, ho2, hb2⟩
        have hb12 := bl_call hb1 hb2
        have hr1 := (own_rd (own_call ho1 hb2)).1
        have HS := HSM A1 A2 c1 c2 w2 hr1 (own_rd ho2).1
        clear H1 H2 HSM ho1 ho2
        go_wp2_with (fail)
        refine HS.out.mono ?_
        rintro e w3 ⟨rfl, hb3⟩
        have hb13 := bl_call hb12 hb3
        have hr3 := hr.later hb13
        have hr13 := hr1.later hb3
        clear HS hb1 hb2 hb12 hr1 hb3
        go_wp2_with (fail)
        refine (HC1 _ hr3).out.mono ?_
        rintro e w4 ⟨rfl, hb4⟩
        go_wp2_with (fail)
        refine (HC2 _ _ _ (hr13.later hb4)).out.mono ?_
        rintro e w5 ⟨rfl, hb5⟩
        have hb45 := bl_call hb4 hb5
        have hb15 := bl_call hb13 hb45
        have hr5 := hr3.later hb45
        have hr15 := hr13.later hb45
        clear HC1 HC2 hb4 hb5 hb13 hr3 hr13 hb45
        go_wp2_with (fail)
        refine (HR1 _ hr5).out.mono ?_
        rintro e w6 ⟨A6, c6, rfl, ho6, hb6⟩
        go_wp2_with (fail)
        refine (HR2 _ _ _ (hr15.later hb6)).out.mono ?_
        rintro e w7 ⟨A7, c7, rfl, ho7, hb7⟩
        have hb17 := bl_call (bl_call hb15 hb6) hb7
        clear HR1 HR2 hb6 hb7 ho6 ho7 hb15 hr5 hr15
        have hrq : ((rl.length : Int) == (rm.length : Int)) = true := by rw [beq_iff_eq]; exact HRI.out
        go_wp2_with (fail)
        refine (HK _).out.mono ?_
        rintro e w8 ⟨rfl, hb8⟩
        go_wp2_with (fail)
        go_ret
        exact ⟨rfl, bl_call hb17 hb8⟩
      · clear HC1 HC2 HR1 HR2 hlong hto hrl
        generalize renE n l to = ev at *
        generalize renL n l to = m at *
        go_enter Try.func16, Try.ntmps16
        go_wp2_with (fail)
        refine (HL _).out.mono ?_
        rintro e w1 ⟨rfl, rfl⟩
        go_wp2_with (fail)
        refine H1.out.mono ?_
        rintro e w1 ⟨A1, c1, rfl, ho1, hb1⟩
        go_wp2_with (fail)
        refine (H2 _ (hr.later hb1) (hs.later hb1)).out.mono ?_
        rintro e w2 ⟨A2, c2, rfl, ho2, hb2⟩
        have hb12 := bl_call hb1 hb2
        have hr1 := (own_rd (own_call ho1 hb2)).1
        have HS := HSM A1 A2 c1 c2 w2 hr1 (own_rd ho2).1
        clear H1 H2 HSM ho1 ho2
        go_wp2_with (fail)
        refine HS.out.mono ?_
        rintro e w3 ⟨rfl, hb3⟩
        go_wp2_with (fail)
        refine (HK _).out.mono ?_
        rintro e w8 ⟨rfl, hb8⟩
        go_wp2_with (fail)
        go_ret
        exact ⟨rfl, bl_call (bl_call hb12 hb3) hb8⟩
end Go.Proofs.Yteoajadcdjaalaa
