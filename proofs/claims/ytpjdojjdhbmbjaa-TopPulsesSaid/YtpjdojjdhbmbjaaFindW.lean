/- The walk of the statement on a pulse that is found. -/
import Derived.Test.YtpjdojjdhbmbjaaSrchW
import Derived.IntWalk
namespace Go.Proofs.Ytpjdojjdhbmbjaa
open Go.RowKit

theorem find_facts {l : List Int} {a n f : Int} {q : List Int} {b : Bool} (h : FindIs l a n f q b) : decide (a ∈ areasL l n f) = b ∧ (b = false → q = []) ∧
    (b = true → (q.length : Int) = n ∧ q.length ≤ 6 ∧ 1 ≤ f ∧ f ≤ 2 ∧ chkE q l a (closedAllR q l) (areaR (l.getD 0 0) q) = 0 ∧ ∀ k, inB (q.getD k 0) (-f) f = true) := by
  by_cases hE : searchE l n f = 0
  · have hs := searchE_f hE
    rcases h.1 hE with ⟨rfl, hq, ha⟩ | ⟨rfl, rfl, hne⟩
    · refine ⟨?_, (fun h => by cases h), fun _ => ?_⟩
      · rw [decide_eq_true_iff, areas_mem hE]; exact ⟨q, hq, ha⟩
      · obtain ⟨hm, hc⟩ := List.mem_filter.1 hq
        have hlen := pulses_len hm
        refine ⟨by omega, by omega, by omega, by omega, ?_, fun k => ?_⟩
        · rw [← chk_same]
          unfold chkE
          have hv : validE q = 0 := by
            rw [validE, if_pos (by omega), if_pos]
            unfold forces
            rw [List.all_eq_true]
            intro x hx
            obtain ⟨k, hk, rfl⟩ := List.getElem_of_mem hx
            have := (ok_pulse hm (by omega) (by omega) (m := 0) (by omega)).force k
            simp [hk] at this
            simp [inB]; omega
          have hb : (closedAllB q l && areaP (pathL (l.getD 0 0) q) == a) = true := by
            rw [show closedAllB q l = true from hc, show areaP (pathL (l.getD 0 0) q) = a from ha]; simp
          rw [if_pos hv, if_pos hs.2.2.2.2, if_pos hb]
        · obtain ⟨i, _, rfl⟩ := pulses_at hm
          have := pAt_force f.toNat n.toNat i k
          exact inB_z.2 (by omega)
    · refine ⟨?_, (fun _ => rfl), (fun h => by cases h)⟩
      rw [decide_eq_false_iff_not, areas_mem hE]
      rintro ⟨x, hx, e⟩
      exact hne x hx e
  · obtain ⟨rfl, rfl⟩ := h.2 hE
    refine ⟨?_, (fun _ => rfl), (fun h => by cases h)⟩
    rw [areasL, if_neg hE]; simp

set_option maxRecDepth 100000 in
set_option maxHeartbeats 2000000 in
theorem pulseFinds_walk (A : Option Addr) (l : List Int) (cap : Nat) (a n f : Int) (w : World) (hr : Rd w A (ints l)) (_ha : (Lit.int .i64 a).wf = true) (_hn : (Lit.int .i64 n).wf = true) (_hf : (Lit.int .i64 f).wf = true) :
    Calls Try.prog 14 #[.slice A l.length cap, .int .i64 a, .agg #[.int .i64 n, .int .i64 f]] w fun e w' => e = .returned (.bool true) ∧ Below w.heap.size w w' := by
  have x0 := Bx.new w 50 #[.int .i64 n, .int .i64 f]
  have hb0 : Below w.heap.size w (w.alloc (.cells #[.int .i64 n, .int .i64 f] 50)) := bl_alloc (Below.refl _ _) _
  by_cases h1 : 100 < l.length
  · have h1' : decide (100 < l.length) = true := by simpa using h1
    go_enter Try.func14, Try.ntmps14
    go_wp2_with (first | (go_at_call 17; refine (long_c _ _ _ _).mono ?_; rintro e w' ⟨rfl, rfl⟩) | (go_at_call 18; refine (known_c _).mono ?_; rintro e w' ⟨rfl, hb1⟩))
    go_ret
    exact ⟨rfl, bl_call hb0 hb1⟩
  · have h1' : decide (100 < l.length) = false := by simpa using h1
    have HA := fun w1 (hb : Below w.heap.size w w1) => Lib.hid (find_c A l cap a n f w1 (by omega) (hr.later hb))
    have HB := fun w1 (hb : Below w.heap.size w w1) => Lib.hid (rareas_c A l cap n f w1 (by omega) (hr.later hb))
    unfold AreasOut at HB
    unfold FindOut at HA
    have HF := Lib.hid (fun q b => @find_facts l a n f q b)
    have hL := areasL_len l n f
    generalize areasL l n f = L at HB HF hL
    generalize searchE l n f = E at HA HB
    go_enter Try.func14, Try.ntmps14
    go_wp2_with (go_at_call 17; refine (long_c _ _ _ _).mono ?_; rintro e w' ⟨rfl, rfl⟩)
    refine (HA _ hb0).out.mono ?_
    rintro e w1 ⟨A1, c1, q, b, rfl, hfi, hr1, hb1⟩
    have HFI := Lib.hid (HF.out q b hfi)
    obtain ⟨i1, i2, i3, i4⟩ := (x0.call hb1).two
    have hw1 := bl_call hb0 hb1
    replace x0 := x0.call hb1
    clear hfi HF
    go_wp2_with (fail)
    refine (HB w1 hw1).out.mono ?_
    rintro e w2 ⟨A2, c2, rfl, hr2, hb2⟩
    have hw2 := bl_call hw1 hb2
    replace hr1 := hr1.later hb2
    replace x0 := x0.call hb2
    clear HA HB i1 i2 i3 i4
    have HH := has_c A2 L c2 a w2 (by omega) hr2
    rw [HFI.out.1] at HH
    have HH' := Lib.hid HH
    clear HH
    go_wp2_with (fail)
    refine HH'.out.mono ?_
    rintro e w3 ⟨rfl, rfl⟩
    cases b with
    | false =>
      obtain rfl := HFI.out.2.1 rfl
      go_wp2_with (fail)
      refine (known_c _).mono ?_
      rintro e w7 ⟨rfl, hb7⟩
      go_wp2_with (fail)
      go_ret
      exact ⟨rfl, bl_call hw2 hb7⟩
    | true =>
      obtain ⟨hqn, hq6, hf1, hf2, hck, hin⟩ := HFI.out.2.2 rfl
      have HC := rcheck_c A1 A q l c1 cap a w2 (by omega) (by omega) hr1 (hr.later hw2)
      rw [hck] at HC
      have HC' := Lib.hid HC
      have HIN := Lib.hid hin
      subst hqn
      clear HC hck hin HFI
      obtain ⟨i1, i2, i3, i4⟩ := x0.two
      go_wp2_with (fail)
      refine HC'.out.mono ?_
      rintro e w4 ⟨rfl, hb4⟩
      replace hr1 := hr1.later hb4
      replace x0 := x0.call hb4
      have hw4 := bl_call hw2 hb4
      clear i1 i2 i3 i4 HC'
      go_wp2_with (fail)
      go_loopw [12] (fun iv wr => ∃ k : Nat, k ≤ q.length ∧ iv = .int .i64 k ∧ Below w4.heap.size w4 wr) (fun iv _ => q.length - (intOf iv).toNat)
      case atStart => exact ⟨0, Nat.zero_le _, rfl, Below.refl _ _⟩
      case round =>
        obtain ⟨k, hk, rfl, hb⟩ := hrel
        by_cases hlt : k < q.length
        · obtain ⟨bb, o, rfl, hbb, hc⟩ := (hr1.later hb).at_ (k := k) (by simpa using hlt)
          have hck := hc k _ (ints_get hlt)
          have hi := HIN.out k
          clear hc
          obtain ⟨i1, i2, i3, i4⟩ := (x0.call hb).two
          generalize q.getD k 0 = g at hck hi
          have HW := fun w => within_c g (-f) f w
          rw [hi] at HW
          have HW' := Lib.hid HW
          have hwn : IntKind.i64.wrap (-f) = -f := IntWalk.i64_in _ (by omega)
          have hwn2 : wrap64 (-f) = -f := IntWalk.wrap64_in _ ⟨by omega, by omega⟩
          clear HW hi
          go_wp2_with (fail)
          go_quiet ((go_at_call 36; exact (HW'.out _).mono fun e w'' h => ⟨h.1, _, h.2.symm⟩))
          clear hwn hwn2
          go_wp2_with (fail)
          go_roundw
          case rel => exact ⟨k + 1, by omega, by go_num, below_drewN hb _⟩
          case measure => simp [intOf]; omega
        · obtain rfl : k = q.length := by omega
          go_wp2_with (fail)
          refine (known_c _).mono ?_
          rintro e w9 ⟨rfl, hb9⟩
          go_wp2_with (fail)
          go_ret
          exact ⟨rfl, bl_call (bl_call hw4 hb) hb9⟩
end Go.Proofs.Ytpjdojjdhbmbjaa
