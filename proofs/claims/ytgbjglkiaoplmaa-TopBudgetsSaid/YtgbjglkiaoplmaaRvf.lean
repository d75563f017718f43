/- Which fixes are valid, and which limits: the document's. -/
import Derived.Test.YtgbjglkiaoplmaaVfx
namespace Go.Proofs.Ytgbjglkiaoplmaa
open Go.RowKit

set_option maxRecDepth 100000 in
set_option maxHeartbeats 4000000 in
theorem rValidateFixes_c (A : Option Addr) (l : List It) (cap : Nat) (B : Option Addr) (fs : List Fx) (cap2 : Nat) (w : World) (hlen : l.length ≤ 1000) (hlen2 : fs.length ≤ 1000) (hr : Rd w A (cellsI l)) (hf : Rd w B (cellsF fs)) :
    Calls Try.prog 39 #[.slice A l.length cap, .slice B fs.length cap2] w fun e w' => e = .returned (.int .i64 (vfE l fs)) ∧ Below w.heap.size w w' := by
  have HV := Lib.hid (rValidate_c A l cap w hlen hr)
  by_cases hv : valE l = 0
  rotate_left
  · have hE : vfE l fs = valE l := by unfold vfE; rw [if_neg hv]
    have hv' : (valE l == 0) = false := by rw [beq_eq_false_iff_ne]; exact hv
    rw [hE]
    clear hE
    generalize valE l = z at *
    go_enter Try.func39, Try.ntmps39
    go_wp2_with (fail)
    refine HV.out.mono ?_
    rintro e w1 ⟨rfl, hb1⟩
    go_wp2_with (fail)
    go_ret
    exact ⟨rfl, hb1⟩
  · by_cases h8 : 8 < fs.length
    · have hE : vfE l fs = 3 := by unfold vfE; rw [if_pos hv, if_pos h8]
      have h8' : (8 : Int) < (fs.length : Int) := by omega
      rw [hv] at HV
      rw [hE]
      clear hE hv
      go_enter Try.func39, Try.ntmps39
      go_wp2_with (fail)
      refine HV.out.mono ?_
      rintro e w1 ⟨rfl, hb1⟩
      go_wp2_with (fail)
      go_ret
      exact ⟨rfl, hb1⟩
    · have h8' : ¬ (8 : Int) < (fs.length : Int) := by omega
      have HB := Lib.hid (fun k (hk : k < fs.length) h => @vfE_bad l fs k hv h8 hk h)
      have HGd := Lib.hid (@vfE_good l fs hv h8)
      have HOK := Lib.hid (val_ok hv)
      rw [hv] at HV
      clear hv h8
      generalize vfE l fs = E at *
      go_enter Try.func39, Try.ntmps39
      go_wp2_with (fail)
      refine HV.out.mono ?_
      rintro e w1 ⟨rfl, hb1⟩
      clear HV
      go_wp2_with (fail)
      go_loopg [6] fs.length (fun gk iv wr => ∃ k : Nat, Hid (k + gk = fs.length) ∧ iv = .int .i64 (k : Int) ∧ Hid (∀ j, j < k → fixB l (fs.getD j fx0) = true) ∧ Below w.heap.size w wr)
      case atStart => exact ⟨0, by simp [Hid], rfl, fun j h => absurd h (by omega), hb1⟩
      case round =>
        clear hb1
        obtain ⟨k, HK, rfl, HP, hb⟩ := hrel
        rcases gk with _ | gi
        · obtain rfl : k = fs.length := HK.out
          have hE := Lib.hid (HGd.out HP.out)
          go_wp2_with (fail)
          go_ret
          exact ⟨ret_i hE.out, hb⟩
        · have hkl : k < fs.length := by have := HK.out; omega
          have hkl' : (k : Int) < (fs.length : Int) := by omega
          obtain ⟨b, o, rfl, _, c0, c1, c2, c3⟩ := (hf.later hb).fix hkl
          have HE : Hid (fixB l (fs.getD k fx0) = false → E = 1) := fun h => HB.out k hkl h
          have HG : Hid (fixB l (fs.getD k fx0) = true → ∀ j, j < k + 1 → fixB l (fs.getD j fx0) = true) := fun h j hj => by
            rcases Nat.lt_or_ge j k with x | x
            · exact HP.out j x
            · obtain rfl : j = k := by omega
              exact h
          have hfB : fixB l (fs.getD k fx0) = (inB (fs.getD k fx0).i 0 ((l.length : Int) - 1) && rateB (fs.getD k fx0).n (fs.getD k fx0).d && inB (fs.getD k fx0).c 0 99 && decide (part (fs.getD k fx0).n (fs.getD k fx0).d ≤ part (l.getD (fs.getD k fx0).i.toNat it0).n (l.getD (fs.getD k fx0).i.toNat it0).d)) := by
            unfold fixB itemB inB
            congr 1
            congr 1
            · congr 1
              rw [Bool.eq_iff_iff, decide_eq_true_eq, Bool.and_eq_true, decide_eq_true_eq, decide_eq_true_eq]; omega
            · rw [Bool.eq_iff_iff, decide_eq_true_eq, Bool.and_eq_true, decide_eq_true_eq, decide_eq_true_eq]
          rw [hfB] at HE HG
          clear hfB
          have hrr := Lib.hid (hr.later hb)
          generalize (fs.getD k fx0).i = fi at *
          generalize (fs.getD k fx0).n = fn at *
          generalize (fs.getD k fx0).d = fd at *
          generalize (fs.getD k fx0).c = fc at *
          have hbx := bl_alloc (Below.refl wr.heap.size wr) (.cells #[.int .i64 fi, .int .i64 fn, .int .i64 fd, .int .i64 fc] 77)
          have xi : Bx (wr.alloc (.cells #[.int .i64 fi, .int .i64 fn, .int .i64 fd, .int .i64 fc] 77)) wr.heap.size 77 #[.int .i64 fi, .int .i64 fn, .int .i64 fd, .int .i64 fc] := Bx.new wr _ _
          have hbb := bl_call hb hbx
          have hr0 := Lib.hid (hrr.out.later hbx)
          have qs : wrap64 ((l.length : Int) - 1) = (l.length : Int) - 1 := IntWalk.wrap64_in _ ⟨by omega, by omega⟩
          have qs2 := Lib.hid ((IntWalk.i64_left ((l.length : Int) - 1)).trans qs)
          clear hb hbx hrr
          go_wp2_with (fail)
          clear c0 c1 c2 c3
          generalize wr.alloc (.cells #[.int .i64 fi, .int .i64 fn, .int .i64 fd, .int .i64 fc] 77) = W0 at *
          have hdr : Below W0.heap.size W0 W0.drew := (Below.refl _ _).drew
          have HW1 := fun W => Lib.hid (within_c fi 0 ((l.length : Int) - 1) W)
          have HW2 := fun W => Lib.hid (risRate_c fn fd W)
          have HW3 := fun W => Lib.hid (within_c fc 0 99 W)
          cases h1 : inB fi 0 ((l.length : Int) - 1) with
          | false =>
            rw [h1] at HW1 HE
            have hE := Lib.hid (HE.out rfl)
            have HC := Lib.hid (fun W (hW : Below W0.heap.size W0 W) => (xi.call hW).four)
            clear h1 HG HE HW2 HW3
            refine wp_region_low (hdr) (by kernel_rfl) (by kernel_rfl) ?_
            repeat (first
              | go_big_quiet_skip
              | (go_big_quiet_want
                 apply Exists.intro
                 refine And.intro (fun W hW => ?_) ?_
                 · (obtain ⟨a0, a1, a2, a3⟩ := HC.out W hW)
                   go_simp
                   first
                     | exact rfl
                     | (first | ((try rw [qs2.out]); with_reducible refine (HW1 W).out.mono ?_; rintro e w1 ⟨rfl, rfl⟩; exact ⟨rfl, hW⟩))
                 try go_simp
                 go_big_quiet_on))
            refine wpQuiet_nil ?_
            intro w9 hb9
            go_wp2_with (fail)
            go_ret
            exact ⟨ret_i hE.out, bl_call hbb hb9⟩
          | true =>
            have hfi : 0 ≤ fi ∧ fi ≤ (l.length : Int) - 1 := by
              unfold inB at h1; rw [Bool.and_eq_true, decide_eq_true_eq, decide_eq_true_eq] at h1; exact h1
            rw [h1] at HW1 HE HG
            cases h2 : rateB fn fd with
            | false =>
              rw [h2] at HW2 HE
              have hE := Lib.hid (HE.out rfl)
              have HC := Lib.hid (fun W (hW : Below W0.heap.size W0 W) => (xi.call hW).four)
              clear h1 h2 HG HE HW3
              refine wp_region_low (hdr) (by kernel_rfl) (by kernel_rfl) ?_
              repeat (first
                | go_big_quiet_skip
                | (go_big_quiet_want
                   apply Exists.intro
                   refine And.intro (fun W hW => ?_) ?_
                   · (obtain ⟨a0, a1, a2, a3⟩ := HC.out W hW)
                     go_simp
                     first
                       | exact rfl
                       | (first | ((try rw [qs2.out]); with_reducible refine (HW1 W).out.mono ?_; rintro e w1 ⟨rfl, rfl⟩; exact ⟨rfl, hW⟩) | (with_reducible refine (HW2 W).out.mono ?_; rintro e w1 ⟨rfl, hb1⟩; exact ⟨rfl, bl_call hW hb1⟩))
                   try go_simp
                   go_big_quiet_on))
              refine wpQuiet_nil ?_
              intro w9 hb9
              go_wp2_with (fail)
              go_ret
              exact ⟨ret_i hE.out, bl_call hbb hb9⟩
            | true =>
              rw [h2] at HW2 HE HG
              cases h3 : inB fc 0 99 with
              | false =>
                rw [h3] at HW3 HE
                have hE := Lib.hid (HE.out rfl)
                have HC := Lib.hid (fun W (hW : Below W0.heap.size W0 W) => (xi.call hW).four)
                clear h1 h2 h3 HG HE
                refine wp_region_low (hdr) (by kernel_rfl) (by kernel_rfl) ?_
                repeat (first
                  | go_big_quiet_skip
                  | (go_big_quiet_want
                     apply Exists.intro
                     refine And.intro (fun W hW => ?_) ?_
                     · (obtain ⟨a0, a1, a2, a3⟩ := HC.out W hW)
                       go_simp
                       first
                         | exact rfl
                         | (first | ((try rw [qs2.out]); with_reducible refine (HW1 W).out.mono ?_; rintro e w1 ⟨rfl, rfl⟩; exact ⟨rfl, hW⟩) | (with_reducible refine (HW2 W).out.mono ?_; rintro e w1 ⟨rfl, hb1⟩; exact ⟨rfl, bl_call hW hb1⟩) | (with_reducible refine (HW3 W).out.mono ?_; rintro e w1 ⟨rfl, rfl⟩; exact ⟨rfl, hW⟩))
                     try go_simp
                     go_big_quiet_on))
                refine wpQuiet_nil ?_
                intro w9 hb9
                go_wp2_with (fail)
                go_ret
                exact ⟨ret_i hE.out, bl_call hbb hb9⟩
              | true =>
                rw [h3] at HW3 HE HG
                obtain ⟨i, rfl⟩ := Int.eq_ofNat_of_zero_le hfi.1
                have hil : i < l.length := by omega
                have hil' : (i : Int) < (l.length : Int) := by omega
                rw [Int.toNat_natCast] at HE HG
                obtain ⟨b1, o1, hA, hI⟩ := hr0.out.itms hil
                have hit := (HOK.out i hil).r
                have HW4 := fun W => Lib.hid (part_c fn fd W h2)
                have HW5 := fun W => Lib.hid (part_c (l.getD i it0).n (l.getD i it0).d W hit)
                have HC := Lib.hid (fun W (hW : Below W0.heap.size W0 W) => And.intro (xi.call hW).four (hI W hW))
                clear h1 h2 h3 hit hI hfi hr0
                generalize part fn fd = p1 at *
                generalize part (l.getD i it0).n (l.getD i it0).d = p2 at *
                generalize (l.getD i it0).u = iu at *
                generalize (l.getD i it0).n = jn at *
                generalize (l.getD i it0).d = jd at *
                subst hA
                by_cases h4 : p1 ≤ p2
                · have h4' : ¬ p2 < p1 := by omega
                  have hd : decide (p1 ≤ p2) = true := decide_eq_true h4
                  rw [hd] at HG
                  have hG := Lib.hid (HG.out rfl)
                  clear hd h4 HE HG
                  refine wp_region_low (hdr) (by kernel_rfl) (by kernel_rfl) ?_
                  repeat (first
                    | go_big_quiet_skip
                    | (go_big_quiet_want
                       apply Exists.intro
                       refine And.intro (fun W hW => ?_) ?_
                       · (obtain ⟨⟨a0, a1, a2, a3⟩, e0, e1, e2⟩ := HC.out W hW)
                         go_simp
                         first
                           | exact rfl
                           | (first | ((try rw [qs2.out]); with_reducible refine (HW1 W).out.mono ?_; rintro e w1 ⟨rfl, rfl⟩; exact ⟨rfl, hW⟩) | (with_reducible refine (HW2 W).out.mono ?_; rintro e w1 ⟨rfl, hb1⟩; exact ⟨rfl, bl_call hW hb1⟩) | (with_reducible refine (HW3 W).out.mono ?_; rintro e w1 ⟨rfl, rfl⟩; exact ⟨rfl, hW⟩) | (with_reducible refine (HW4 W).out.mono ?_; rintro e w1 ⟨rfl, hb1⟩; exact ⟨rfl, bl_call hW hb1⟩) | (with_reducible refine (HW5 W).out.mono ?_; rintro e w1 ⟨rfl, hb1⟩; exact ⟨rfl, bl_call hW hb1⟩))
                       try go_simp
                       go_big_quiet_on))
                  refine wpQuiet_nil ?_
                  intro w9 hb9
                  go_wp2_with (fail)
                  go_roundg gi
                  case rel => exact ⟨k + 1, by have := HK.out; show _ = _; omega, by go_num, hG.out, bl_call hbb hb9⟩
                  case measure => omega
                · have h4' : p2 < p1 := by omega
                  have hd : decide (p1 ≤ p2) = false := decide_eq_false h4
                  rw [hd] at HE
                  have hE := Lib.hid (HE.out rfl)
                  clear hd h4 HE HG
                  refine wp_region_low (hdr) (by kernel_rfl) (by kernel_rfl) ?_
                  repeat (first
                    | go_big_quiet_skip
                    | (go_big_quiet_want
                       apply Exists.intro
                       refine And.intro (fun W hW => ?_) ?_
                       · (obtain ⟨⟨a0, a1, a2, a3⟩, e0, e1, e2⟩ := HC.out W hW)
                         go_simp
                         first
                           | exact rfl
                           | (first | ((try rw [qs2.out]); with_reducible refine (HW1 W).out.mono ?_; rintro e w1 ⟨rfl, rfl⟩; exact ⟨rfl, hW⟩) | (with_reducible refine (HW2 W).out.mono ?_; rintro e w1 ⟨rfl, hb1⟩; exact ⟨rfl, bl_call hW hb1⟩) | (with_reducible refine (HW3 W).out.mono ?_; rintro e w1 ⟨rfl, rfl⟩; exact ⟨rfl, hW⟩) | (with_reducible refine (HW4 W).out.mono ?_; rintro e w1 ⟨rfl, hb1⟩; exact ⟨rfl, bl_call hW hb1⟩) | (with_reducible refine (HW5 W).out.mono ?_; rintro e w1 ⟨rfl, hb1⟩; exact ⟨rfl, bl_call hW hb1⟩))
                       try go_simp
                       go_big_quiet_on))
                  refine wpQuiet_nil ?_
                  intro w9 hb9
                  go_wp2_with (fail)
                  go_ret
                  exact ⟨ret_i hE.out, bl_call hbb hb9⟩
end Go.Proofs.Ytgbjglkiaoplmaa
