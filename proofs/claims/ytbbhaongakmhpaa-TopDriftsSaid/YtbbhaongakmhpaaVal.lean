/- Which readings are right: package drift's contract. -/
import Derived.Test.YtbbhaongakmhpaaRdg
namespace Go.Proofs.Ytbbhaongakmhpaa
open Go.RowKit

theorem valid_step {l : List T3} {k : Nat} (hk : k < l.length) (h : allTo (stepB l) k = true) :
    (rdB (l.getD k t0) = false → allTo (stepB l) l.length = false) ∧ (rdB (l.getD k t0) = true → k = 0 → allTo (stepB l) (k + 1) = true) ∧
    (rdB (l.getD k t0) = true → 0 < k → tm l (k - 1) < tm l k → allTo (stepB l) (k + 1) = true) ∧ (0 < k → ¬ tm l (k - 1) < tm l k → allTo (stepB l) l.length = false) := by
  refine ⟨fun h1 => allTo_no hk (by unfold stepB; rw [h1]; rfl), fun h1 h2 => ?_, fun h1 h2 h3 => ?_, fun h2 h3 => allTo_no hk ?_⟩
  · rw [allTo, h, stepB, h1, decide_eq_true h2]; rfl
  · rw [allTo, h, stepB, h1, decide_eq_true h3, Bool.or_true]; rfl
  · rw [stepB, decide_eq_false h3, decide_eq_false (show ¬ k = 0 by omega), Bool.or_false, Bool.and_false]
set_option maxRecDepth 100000 in
set_option maxHeartbeats 1000000 in
theorem validate_c (A : Option Addr) (l : List T3) (cap : Nat) (w : World) (hlen : l.length ≤ 1000) (hr : Rd w A (cellsT l)) :
    Calls Try.prog 23 #[.slice A l.length cap] w fun e w' => e = .returned (.int .i64 (validE l)) ∧ Below w.heap.size w w' := by
  by_cases h0 : l.length = 0
  · have hE : validE l = 3 := by rw [validE, if_neg (by omega)]
    rw [hE]
    have h0' : ((l.length : Int) = 0) := by omega
    go_enter Try.func23, Try.ntmps23
    go_wp2_with (fail)
    go_ret
    exact ⟨rfl, Below.refl _ _⟩
  · by_cases h8 : 8 < l.length
    · have h8' : (8 : Int) < (l.length : Int) := by omega
      have h0' : ¬ ((l.length : Int) = 0) := by omega
      have hE : validE l = 3 := by rw [validE, if_neg (by omega)]
      rw [hE]
      go_enter Try.func23, Try.ntmps23
      go_wp2_with (fail)
      go_ret
      exact ⟨rfl, Below.refl _ _⟩
    · have h8' : ¬ (8 : Int) < (l.length : Int) := by omega
      have h0' : ¬ ((l.length : Int) = 0) := by omega
      have HE : Hid (validE l = readE l) := by show _ = _; rw [validE, if_pos (by omega)]
      have HS := Lib.hid (fun k => @valid_step l k)
      generalize validE l = res at HE
      go_enter Try.func23, Try.ntmps23
      go_wp2_with (fail)
      go_loopg [15] l.length (fun gk iv wr => ∃ k : Nat, Hid (k + gk = l.length) ∧ iv = .int .i64 (k : Int) ∧ Hid (allTo (stepB l) k = true) ∧ Below w.heap.size w wr)
      case atStart => exact ⟨0, by simp [Hid], rfl, rfl, Below.refl _ _⟩
      case round =>
        obtain ⟨k, HK, rfl, hall, hb⟩ := hrel
        rcases gk with _ | gi
        · obtain rfl : k = l.length := HK.out
          go_wp2_with (fail)
          go_ret
          exact ⟨ret_i (by rw [HE.out, readE, if_pos hall.out]), hb⟩
        · have hlt : k < l.length := by have := HK.out; omega
          have hlt' : (k : Int) < (l.length : Int) := by omega
          obtain ⟨H1, H2, H3, H4⟩ := HS.out k hlt hall.out
          replace H1 := Lib.hid H1
          replace H2 := Lib.hid H2
          replace H3 := Lib.hid H3
          replace H4 := Lib.hid H4
          have hk1 : k - 1 < l.length := by omega
          obtain ⟨b, o, rfl, hbl, ⟨c0, c1, c2⟩, d0, -, -⟩ := (hr.later hb).tri2 hlt hk1
          unfold tm at H3 H4
          generalize l.getD k t0 = g at c0 c1 c2 H1 H2 H3 H4
          obtain ⟨gt, gl, gh⟩ := g
          simp only [] at c0 c1 c2 H3 H4
          have HG := fun w => Lib.hid (isReading_c gt gl gh w)
          have hb0 := fun o => bl_alloc hb o
          obtain ⟨W0, hW0⟩ : ∃ W0, W0 = wr.alloc (.cells #[.int .i64 gt, .int .i64 gl, .int .i64 gh] 55) := ⟨_, rfl⟩
          have hW1 : Below wr.heap.size wr W0 := by rw [hW0]; exact bl_alloc (Below.refl _ _) _
          have hbx : Bx W0 wr.heap.size 55 #[.int .i64 gt, .int .i64 gl, .int .i64 gh] := by rw [hW0]; exact Bx.new _ _ _
          have hba0 := hb0 (.cells #[.int .i64 gt, .int .i64 gl, .int .i64 gh] 55)
          rw [← hW0] at hba0
          clear hb0
          generalize (l.getD (k - 1) t0).1 = pt at d0 H3 H4
          have HCL : Hid (∀ w1, Below W0.heap.size W0 w1 → (w1.cell? ⟨wr.heap.size, 0, none⟩ = some (.int .i64 gt) ∧ w1.cell? ⟨wr.heap.size, 1, none⟩ = some (.int .i64 gl) ∧ w1.cell? ⟨wr.heap.size, 2, none⟩ = some (.int .i64 gh)) ∧ w1.cell? ⟨b, o + (k - 1) * 3, none⟩ = some (.int .i64 pt)) := fun w1 hw => by
            obtain ⟨z0, z1, z2, _, _, _⟩ := (hbx.call hw).three
            have hh : ∀ j, w1.cell? ⟨b, j, none⟩ = wr.cell? ⟨b, j, none⟩ := fun j => (hw.cell (p := ⟨b, j, none⟩) (by have := hW1.size; show b < W0.heap.size; omega)).trans (hW1.cell (p := ⟨b, j, none⟩) hbl)
            exact ⟨⟨z0, z1, z2⟩, by rw [hh]; exact d0⟩
          clear d0
          have hbW : Below W0.heap.size W0 W0.drew := (Below.refl _ _).drew
          go_wp2_with (fail)
          rw [← hW0]
          clear hW0 c0 c1 c2
          generalize rdB (gt, gl, gh) = v at HG H1 H2 H3
          cases v with
          | false =>
            have HN := Lib.hid (H1.out rfl)
            clear H1 H2 H3 H4
            refine wp_region_low (hbW) (by kernel_rfl) (by kernel_rfl) ?_
            repeat (first
              | go_big_quiet_skip
              | (go_big_quiet_want
                 apply Exists.intro
                 refine And.intro (fun W hW => ?_) ?_
                 · (obtain ⟨⟨z0, z1, z2⟩, z3⟩ := HCL.out W hW)
                   go_simp
                   first
                     | exact rfl
                     | (refine (HG W).out.mono ?_; rintro e w1 ⟨rfl, hb1⟩; exact ⟨rfl, bl_call hW hb1⟩)
                 try go_simp
                 go_big_quiet_on))
            refine wpQuiet_nil ?_
            intro w9 hb9
            go_wp2_with (fail)
            go_ret
            exact ⟨ret_i (by rw [HE.out, readE, HN.out]; rfl), bl_call hba0 hb9⟩
          | true =>
            by_cases hk0 : k = 0
            · have HN := Lib.hid (H2.out rfl hk0)
              have hk0' : ¬ (0 : Int) < (k : Int) := by omega
              clear H1 H2 H3 H4
              refine wp_region_low (hbW) (by kernel_rfl) (by kernel_rfl) ?_
              repeat (first
                | go_big_quiet_skip
                | (go_big_quiet_want
                   apply Exists.intro
                   refine And.intro (fun W hW => ?_) ?_
                   · (obtain ⟨⟨z0, z1, z2⟩, z3⟩ := HCL.out W hW)
                     go_simp
                     first
                       | exact rfl
                       | (refine (HG W).out.mono ?_; rintro e w1 ⟨rfl, hb1⟩; exact ⟨rfl, bl_call hW hb1⟩)
                   try go_simp
                   go_big_quiet_on))
              refine wpQuiet_nil ?_
              intro w9 hb9
              go_wp2_with (fail)
              go_roundg gi
              case rel => exact ⟨k + 1, by have := HK.out; show _ = _; omega, by go_num, HN, bl_call hba0 hb9⟩
              case measure => omega
            · have hk0' : (0 : Int) < (k : Int) := by omega
              have hk0n : 0 < k := by omega
              have e1 : (k : Int) - 1 = ((k - 1 : Nat) : Int) := by omega
              have e2 : IntKind.i64.wrap ((k - 1 : Nat) : Int) = ((k - 1 : Nat) : Int) := by rw [IntWalk.i64_left]; exact IntWalk.wrap64_in _ ⟨by omega, by omega⟩
              have e3 : ((k - 1 : Nat) : Int) < (l.length : Int) := by omega
              by_cases hpt : pt < gt
              · have HN := Lib.hid (H3.out rfl hk0n hpt)
                clear H1 H2 H3 H4
                refine wp_region_low (hbW) (by kernel_rfl) (by kernel_rfl) ?_
                repeat (first
                  | go_big_quiet_skip
                  | (go_big_quiet_want
                     apply Exists.intro
                     refine And.intro (fun W hW => ?_) ?_
                     · (obtain ⟨⟨z0, z1, z2⟩, z3⟩ := HCL.out W hW)
                       go_simp
                       first
                         | exact rfl
                         | (refine (HG W).out.mono ?_; rintro e w1 ⟨rfl, hb1⟩; exact ⟨rfl, bl_call hW hb1⟩)
                     try go_simp
                     go_big_quiet_on))
                refine wpQuiet_nil ?_
                intro w9 hb9
                go_wp2_with (fail)
                go_roundg gi
                case rel => exact ⟨k + 1, by have := HK.out; show _ = _; omega, by go_num, HN, bl_call hba0 hb9⟩
                case measure => omega
              · have HN := Lib.hid (H4.out hk0n (by omega))
                clear H1 H2 H3 H4
                refine wp_region_low (hbW) (by kernel_rfl) (by kernel_rfl) ?_
                repeat (first
                  | go_big_quiet_skip
                  | (go_big_quiet_want
                     apply Exists.intro
                     refine And.intro (fun W hW => ?_) ?_
                     · (obtain ⟨⟨z0, z1, z2⟩, z3⟩ := HCL.out W hW)
                       go_simp
                       first
                         | exact rfl
                         | (refine (HG W).out.mono ?_; rintro e w1 ⟨rfl, hb1⟩; exact ⟨rfl, bl_call hW hb1⟩)
                     try go_simp
                     go_big_quiet_on))
                refine wpQuiet_nil ?_
                intro w9 hb9
                go_wp2_with (fail)
                go_ret
                exact ⟨ret_i (by rw [HE.out, readE, HN.out]; rfl), bl_call hba0 hb9⟩
end Go.Proofs.Ytbbhaongakmhpaa
