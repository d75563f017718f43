/- Which readings are right: the specification's. -/
import Derived.Test.YtbbhaongakmhpaaVal
namespace Go.Proofs.Ytbbhaongakmhpaa
open Go.RowKit

theorem rdB_eq (t l h : Int) : rdB (t, l, h) = (inB t 0 1000 && inB l (-1000) 1000 && inB h (-1000) 1000 && decide (l ≤ h)) := rfl
set_option maxRecDepth 100000 in
set_option maxHeartbeats 8000000 in
theorem rvalidate_c (A : Option Addr) (l : List T3) (cap : Nat) (w : World) (hlen : l.length ≤ 1000) (hr : Rd w A (cellsT l)) :
    Calls Try.prog 24 #[.slice A l.length cap] w fun e w' => e = .returned (.int .i64 (validE l)) ∧ Below w.heap.size w w' := by
  have HW0 := fun w => Lib.hid (within_c (l.length : Int) 1 8 w)
  by_cases h8 : ¬ (1 ≤ l.length ∧ l.length ≤ 8)
  · have hE : validE l = 3 := by rw [validE, if_neg h8]
    have hi : inB (l.length : Int) 1 8 = false := inB_no.2 (by omega)
    rw [hE]
    rw [hi] at HW0
    clear h8 hi hE
    go_enter Try.func24, Try.ntmps24
    go_wp2_with (go_at_call 62; refine (HW0 _).out.mono ?_; rintro e w1 ⟨rfl, rfl⟩)
    go_ret
    exact ⟨rfl, Below.refl _ _⟩
  · have hi : inB (l.length : Int) 1 8 = true := inB_z.2 (by omega)
    rw [hi] at HW0
    have HE : Hid (validE l = readE l) := by show _ = _; rw [validE, if_pos (by omega)]
    have HS := Lib.hid (fun k => @valid_step l k)
    clear h8 hi
    generalize validE l = res at HE
    go_enter Try.func24, Try.ntmps24
    go_wp2_with (go_at_call 62; refine (HW0 _).out.mono ?_; rintro e w1 ⟨rfl, rfl⟩)
    clear HW0
    go_loopg [3] l.length (fun gk iv wr => ∃ k : Nat, Hid (k + gk = l.length) ∧ iv = .int .i64 (k : Int) ∧ Hid (allTo (stepB l) k = true) ∧ Below w.heap.size w wr)
    case atStart => exact ⟨0, by simp [Hid], rfl, rfl, Below.refl _ _⟩
    case round =>
      obtain ⟨k, HK, rfl, hall, hb⟩ := hrel
      rcases gk with _ | gi
      · obtain rfl : k = l.length := HK.out
        go_wp2_with (fail)
        go_ret
        exact ⟨ret_i (by rw [HE.out, readE, if_pos hall.out]), hb⟩
      · have hlt : k < l.length := by have := HK.out; omega
        have hlt' : (k : Int) < (l.length : Int) := by omega
        obtain ⟨H1, H2, H3, H4⟩ := HS.out k hlt hall.out
        replace H1 := Lib.hid H1
        replace H2 := Lib.hid H2
        replace H3 := Lib.hid H3
        replace H4 := Lib.hid H4
        have hk1 : k - 1 < l.length := by omega
        obtain ⟨b, o, rfl, hbl, ⟨c0, c1, c2⟩, d0, -, -⟩ := (hr.later hb).tri2 hlt hk1
        unfold tm at H3 H4
        generalize l.getD k t0 = g at c0 c1 c2 H1 H2 H3 H4
        obtain ⟨gt, gl, gh⟩ := g
        simp only [] at c0 c1 c2 H3 H4
        generalize (l.getD (k - 1) t0).1 = pt at d0 H3 H4
        have HCL : Hid (∀ w1, Below wr.heap.size wr w1 → (w1.cell? ⟨b, o + k * 3, none⟩ = some (.int .i64 gt) ∧ w1.cell? ⟨b, o + k * 3 + 1, none⟩ = some (.int .i64 gl) ∧ w1.cell? ⟨b, o + k * 3 + 2, none⟩ = some (.int .i64 gh)) ∧ w1.cell? ⟨b, o + (k - 1) * 3, none⟩ = some (.int .i64 pt)) := fun w1 hw => by
          have hh : ∀ j, w1.cell? ⟨b, j, none⟩ = wr.cell? ⟨b, j, none⟩ := fun j => hw.cell (p := ⟨b, j, none⟩) hbl
          exact ⟨⟨by rw [hh]; exact c0, by rw [hh]; exact c1, by rw [hh]; exact c2⟩, by rw [hh]; exact d0⟩
        clear c0 c1 c2 d0
        have hbW : Below wr.heap.size wr wr.drew := (Below.refl _ _).drew
        rw [rdB_eq] at H1 H2 H3
        go_wp2_with (fail)
        rcases hv1 : inB gt 0 1000 with _ | _
        · have HN := Lib.hid (H1.out (by simp [*]))
          clear H1 H2 H3 H4
          refine wp_region_low (hbW) (by kernel_rfl) (by kernel_rfl) ?_
          repeat (first
            | go_big_quiet_skip
            | (go_big_quiet_want
               apply Exists.intro
               refine And.intro (fun W hW => ?_) ?_
               · (obtain ⟨⟨c0, c1, c2⟩, d0⟩ := HCL.out W hW)
                 go_simp
                 first
                   | exact rfl
                   | (refine (within_c _ _ _ W).mono ?_; rintro e w1 ⟨rfl, rfl⟩; exact ⟨rfl, hW⟩)
               try go_simp
               go_big_quiet_on))
          refine wpQuiet_nil ?_
          intro w9 hb9
          go_wp2_with (fail)
          go_ret
          exact ⟨ret_i (by rw [HE.out, readE, HN.out]; rfl), bl_call hb hb9⟩
        · by_cases hk0 : k = 0
          · have hk0' : ¬ (0 : Int) < (k : Int) := by omega
            have HK0 := Lib.hid hk0
            have hk0n : ¬ 0 < k := by omega
            clear hk0
            refine wp_region_low (hbW) (by kernel_rfl) (by kernel_rfl) ?_
            repeat (first
              | go_big_quiet_skip
              | (go_big_quiet_want
                 apply Exists.intro
                 refine And.intro (fun W hW => ?_) ?_
                 · (obtain ⟨⟨c0, c1, c2⟩, d0⟩ := HCL.out W hW)
                   go_simp
                   first
                     | exact rfl
                     | (refine (within_c _ _ _ W).mono ?_; rintro e w1 ⟨rfl, rfl⟩; exact ⟨rfl, hW⟩)
                 try go_simp
                 go_big_quiet_on))
            refine wpQuiet_nil ?_
            intro w9 hb9
            have hbW9 : Below w9.heap.size w9 w9.drew := (Below.refl _ _).drew
            clear hbW
            replace HCL := Lib.hid (fun w1 (h : Below w9.heap.size w9 w1) => HCL.out w1 (bl_call hb9 h))
            go_wp2_with (fail)
            rcases hv2 : inB gl (-1000) 1000 with _ | _
            · have HN := Lib.hid (H1.out (by simp [*]))
              clear H1 H2 H3 H4
              refine wp_region_low (hbW9) (by kernel_rfl) (by kernel_rfl) ?_
              repeat (first
                | go_big_quiet_skip
                | (go_big_quiet_want
                   apply Exists.intro
                   refine And.intro (fun W hW => ?_) ?_
                   · (obtain ⟨⟨c0, c1, c2⟩, d0⟩ := HCL.out W hW)
                     go_simp
                     first
                       | exact rfl
                       | (refine (within_c _ _ _ W).mono ?_; rintro e w1 ⟨rfl, rfl⟩; exact ⟨rfl, hW⟩)
                   try go_simp
                   go_big_quiet_on))
              refine wpQuiet_nil ?_
              intro wa hba
              go_wp2_with (fail)
              go_ret
              exact ⟨ret_i (by rw [HE.out, readE, HN.out]; rfl), bl_call hb (bl_call hb9 hba)⟩
            · rcases hv3 : inB gh (-1000) 1000 with _ | _
              · have HN := Lib.hid (H1.out (by simp [*]))
                clear H1 H2 H3 H4
                refine wp_region_low (hbW9) (by kernel_rfl) (by kernel_rfl) ?_
                repeat (first
                  | go_big_quiet_skip
                  | (go_big_quiet_want
                     apply Exists.intro
                     refine And.intro (fun W hW => ?_) ?_
                     · (obtain ⟨⟨c0, c1, c2⟩, d0⟩ := HCL.out W hW)
                       go_simp
                       first
                         | exact rfl
                         | (refine (within_c _ _ _ W).mono ?_; rintro e w1 ⟨rfl, rfl⟩; exact ⟨rfl, hW⟩)
                     try go_simp
                     go_big_quiet_on))
                refine wpQuiet_nil ?_
                intro wa hba
                go_wp2_with (fail)
                go_ret
                exact ⟨ret_i (by rw [HE.out, readE, HN.out]; rfl), bl_call hb (bl_call hb9 hba)⟩
              · by_cases hlh : gl ≤ gh
                · have hd : decide (gl ≤ gh) = true := decide_eq_true hlh
                  have HN := Lib.hid (H2.out (by simp [*]) HK0.out)
                  clear H1 H2 H3 H4 hd
                  refine wp_region_low (hbW9) (by kernel_rfl) (by kernel_rfl) ?_
                  repeat (first
                    | go_big_quiet_skip
                    | (go_big_quiet_want
                       apply Exists.intro
                       refine And.intro (fun W hW => ?_) ?_
                       · (obtain ⟨⟨c0, c1, c2⟩, d0⟩ := HCL.out W hW)
                         go_simp
                         first
                           | exact rfl
                           | (refine (within_c _ _ _ W).mono ?_; rintro e w1 ⟨rfl, rfl⟩; exact ⟨rfl, hW⟩)
                       try go_simp
                       go_big_quiet_on))
                  refine wpQuiet_nil ?_
                  intro wa hba
                  go_wp2_with (fail)
                  go_roundg gi
                  case rel => exact ⟨k + 1, by have := HK.out; show _ = _; omega, by go_num, HN, bl_call hb (bl_call hb9 hba)⟩
                  case measure => omega
                · have HN := Lib.hid (H1.out (by simp [*]))
                  clear H1 H2 H3 H4
                  refine wp_region_low (hbW9) (by kernel_rfl) (by kernel_rfl) ?_
                  repeat (first
                    | go_big_quiet_skip
                    | (go_big_quiet_want
                       apply Exists.intro
                       refine And.intro (fun W hW => ?_) ?_
                       · (obtain ⟨⟨c0, c1, c2⟩, d0⟩ := HCL.out W hW)
                         go_simp
                         first
                           | exact rfl
                           | (refine (within_c _ _ _ W).mono ?_; rintro e w1 ⟨rfl, rfl⟩; exact ⟨rfl, hW⟩)
                       try go_simp
                       go_big_quiet_on))
                  refine wpQuiet_nil ?_
                  intro wa hba
                  go_wp2_with (fail)
                  go_ret
                  exact ⟨ret_i (by rw [HE.out, readE, HN.out]; rfl), bl_call hb (bl_call hb9 hba)⟩
          · have hk0' : (0 : Int) < (k : Int) := by omega
            have hk0n : 0 < k := by omega
            have e1 : (k : Int) - 1 = ((k - 1 : Nat) : Int) := by omega
            have e2 : IntKind.i64.wrap ((k - 1 : Nat) : Int) = ((k - 1 : Nat) : Int) := by rw [IntWalk.i64_left]; exact IntWalk.wrap64_in _ ⟨by omega, by omega⟩
            have e3 : ((k - 1 : Nat) : Int) < (l.length : Int) := by omega
            by_cases hpt : pt < gt
            · have HPT : Hid (pt < gt) := hpt
              refine wp_region_low (hbW) (by kernel_rfl) (by kernel_rfl) ?_
              repeat (first
                | go_big_quiet_skip
                | (go_big_quiet_want
                   apply Exists.intro
                   refine And.intro (fun W hW => ?_) ?_
                   · (obtain ⟨⟨c0, c1, c2⟩, d0⟩ := HCL.out W hW)
                     go_simp
                     first
                       | exact rfl
                       | (refine (within_c _ _ _ W).mono ?_; rintro e w1 ⟨rfl, rfl⟩; exact ⟨rfl, hW⟩)
                   try go_simp
                   go_big_quiet_on))
              refine wpQuiet_nil ?_
              intro w9 hb9
              have hbW9 : Below w9.heap.size w9 w9.drew := (Below.refl _ _).drew
              clear hbW
              replace HCL := Lib.hid (fun w1 (h : Below w9.heap.size w9 w1) => HCL.out w1 (bl_call hb9 h))
              go_wp2_with (fail)
              rcases hv2 : inB gl (-1000) 1000 with _ | _
              · have HN := Lib.hid (H1.out (by simp [*]))
                clear H1 H2 H3 H4
                refine wp_region_low (hbW9) (by kernel_rfl) (by kernel_rfl) ?_
                repeat (first
                  | go_big_quiet_skip
                  | (go_big_quiet_want
                     apply Exists.intro
                     refine And.intro (fun W hW => ?_) ?_
                     · (obtain ⟨⟨c0, c1, c2⟩, d0⟩ := HCL.out W hW)
                       go_simp
                       first
                         | exact rfl
                         | (refine (within_c _ _ _ W).mono ?_; rintro e w1 ⟨rfl, rfl⟩; exact ⟨rfl, hW⟩)
                     try go_simp
                     go_big_quiet_on))
                refine wpQuiet_nil ?_
                intro wa hba
                go_wp2_with (fail)
                go_ret
                exact ⟨ret_i (by rw [HE.out, readE, HN.out]; rfl), bl_call hb (bl_call hb9 hba)⟩
              · rcases hv3 : inB gh (-1000) 1000 with _ | _
                · have HN := Lib.hid (H1.out (by simp [*]))
                  clear H1 H2 H3 H4
                  refine wp_region_low (hbW9) (by kernel_rfl) (by kernel_rfl) ?_
                  repeat (first
                    | go_big_quiet_skip
                    | (go_big_quiet_want
                       apply Exists.intro
                       refine And.intro (fun W hW => ?_) ?_
                       · (obtain ⟨⟨c0, c1, c2⟩, d0⟩ := HCL.out W hW)
                         go_simp
                         first
                           | exact rfl
                           | (refine (within_c _ _ _ W).mono ?_; rintro e w1 ⟨rfl, rfl⟩; exact ⟨rfl, hW⟩)
                       try go_simp
                       go_big_quiet_on))
                  refine wpQuiet_nil ?_
                  intro wa hba
                  go_wp2_with (fail)
                  go_ret
                  exact ⟨ret_i (by rw [HE.out, readE, HN.out]; rfl), bl_call hb (bl_call hb9 hba)⟩
                · by_cases hlh : gl ≤ gh
                  · have hd : decide (gl ≤ gh) = true := decide_eq_true hlh
                    have HN := Lib.hid (H3.out (by simp [*]) hk0n HPT.out)
                    clear H1 H2 H3 H4 hd
                    refine wp_region_low (hbW9) (by kernel_rfl) (by kernel_rfl) ?_
                    repeat (first
                      | go_big_quiet_skip
                      | (go_big_quiet_want
                         apply Exists.intro
                         refine And.intro (fun W hW => ?_) ?_
                         · (obtain ⟨⟨c0, c1, c2⟩, d0⟩ := HCL.out W hW)
                           go_simp
                           first
                             | exact rfl
                             | (refine (within_c _ _ _ W).mono ?_; rintro e w1 ⟨rfl, rfl⟩; exact ⟨rfl, hW⟩)
                         try go_simp
                         go_big_quiet_on))
                    refine wpQuiet_nil ?_
                    intro wa hba
                    go_wp2_with (fail)
                    go_roundg gi
                    case rel => exact ⟨k + 1, by have := HK.out; show _ = _; omega, by go_num, HN, bl_call hb (bl_call hb9 hba)⟩
                    case measure => omega
                  · have HN := Lib.hid (H1.out (by simp [*]))
                    clear H1 H2 H3 H4
                    refine wp_region_low (hbW9) (by kernel_rfl) (by kernel_rfl) ?_
                    repeat (first
                      | go_big_quiet_skip
                      | (go_big_quiet_want
                         apply Exists.intro
                         refine And.intro (fun W hW => ?_) ?_
                         · (obtain ⟨⟨c0, c1, c2⟩, d0⟩ := HCL.out W hW)
                           go_simp
                           first
                             | exact rfl
                             | (refine (within_c _ _ _ W).mono ?_; rintro e w1 ⟨rfl, rfl⟩; exact ⟨rfl, hW⟩)
                         try go_simp
                         go_big_quiet_on))
                    refine wpQuiet_nil ?_
                    intro wa hba
                    go_wp2_with (fail)
                    go_ret
                    exact ⟨ret_i (by rw [HE.out, readE, HN.out]; rfl), bl_call hb (bl_call hb9 hba)⟩
            · have HN := Lib.hid (H4.out hk0n (by omega))
              clear H1 H2 H3 H4
              refine wp_region_low (hbW) (by kernel_rfl) (by kernel_rfl) ?_
              repeat (first
                | go_big_quiet_skip
                | (go_big_quiet_want
                   apply Exists.intro
                   refine And.intro (fun W hW => ?_) ?_
                   · (obtain ⟨⟨c0, c1, c2⟩, d0⟩ := HCL.out W hW)
                     go_simp
                     first
                       | exact rfl
                       | (refine (within_c _ _ _ W).mono ?_; rintro e w1 ⟨rfl, rfl⟩; exact ⟨rfl, hW⟩)
                   try go_simp
                   go_big_quiet_on))
              refine wpQuiet_nil ?_
              intro w9 hb9
              go_wp2_with (fail)
              go_ret
              exact ⟨ret_i (by rw [HE.out, readE, HN.out]; rfl), bl_call hb hb9⟩
end Go.Proofs.Ytbbhaongakmhpaa
