/- The walk of the statement on the shortest closed pulse. -/
import Derived.Test.YtpjdojjdhbmbjaaRshort
import Derived.Test.YtpjdojjdhbmbjaaKnown
namespace Go.Proofs.Ytpjdojjdhbmbjaa
open Go.RowKit

theorem short_same {l : List Int} {f n n' : Int} {b b' : Bool} (h : ShortIs l f n b) (h' : ShortIs l f n' b') : n' = n ∧ b' = b := by
  by_cases hE : searchE l 1 f = 0
  · rcases h.1 hE with ⟨L, h1, h2, rfl, rfl, h5, h6⟩ | ⟨rfl, rfl, h3⟩
    · rcases h'.1 hE with ⟨L', k1, k2, rfl, rfl, k5, k6⟩ | ⟨rfl, rfl, k3⟩
      · refine ⟨?_, rfl⟩
        rcases Nat.lt_trichotomy L L' with hlt | rfl | hlt
        · rw [k6 L h1 hlt] at h5; cases h5
        · rfl
        · rw [h6 L' k1 hlt] at k5; cases k5
      · rw [k3 L h1 (by omega)] at h5; cases h5
    · rcases h'.1 hE with ⟨L', k1, k2, rfl, rfl, k5, k6⟩ | ⟨rfl, rfl, k3⟩
      · rw [h3 L' k1 (by omega)] at k5; cases k5
      · exact ⟨rfl, rfl⟩
  · obtain ⟨rfl, rfl⟩ := h.2 hE
    obtain ⟨rfl, rfl⟩ := h'.2 hE
    exact ⟨rfl, rfl⟩
theorem pulses_more : ∀ n i, i < 3 ^ n → ∃ j, j < 5 ^ n ∧ pAt 2 n j = pAt 1 n i
  | 0, i, _ => ⟨0, by simp, rfl⟩
  | n + 1, i, h => by
    rw [Nat.pow_succ] at h
    obtain ⟨j, hj, he⟩ := pulses_more n (i / 3) ((Nat.div_lt_iff_lt_mul (by omega)).2 h)
    have hm := Nat.mod_lt i (show 0 < 3 by omega)
    refine ⟨j * (2 * 2 + 1) + (1 + i % 3), ?_, ?_⟩
    · rw [Nat.pow_succ]; omega
    · rw [pAt_row 2 n j (1 + i % 3) (by omega), he, pAt]
      congr 2
      push_cast
      omega
theorem push_more {l : List Int} {n : Nat} (h : (closedL l 1 n).any pushB = true) : (closedL l 2 n).any pushB = true := by
  rw [List.any_eq_true] at h ⊢
  obtain ⟨x, hx, hp⟩ := h
  obtain ⟨hm, hc⟩ := List.mem_filter.1 hx
  obtain ⟨i, hi, rfl⟩ := pulses_at hm
  obtain ⟨j, hj, he⟩ := pulses_more n i hi
  refine ⟨_, List.mem_filter.2 ⟨?_, hc⟩, hp⟩
  rw [← he]; exact List.mem_map.2 ⟨j, List.mem_range.2 hj, rfl⟩
theorem short_more {l : List Int} {n n' : Int} {b' : Bool} (h : ShortIs l 1 n true) (h' : ShortIs l 2 n' b') : searchE l 1 2 = 0 ∧ b' = true ∧ n' ≤ n := by
  have hE : searchE l 1 1 = 0 := by
    by_cases hE : searchE l 1 1 = 0
    · exact hE
    · exact absurd (h.2 hE).2 (by simp)
  have hE2 : searchE l 1 2 = 0 := by
    have ha := (searchE_f hE).2.2.2.2
    unfold searchE
    rw [ha]; rfl
  rcases h.1 hE with ⟨L, h1, h2, rfl, _, h5, h6⟩ | ⟨_, hb, _⟩
  · have h5' := push_more h5
    rcases h'.1 hE2 with ⟨L', k1, k2, rfl, rfl, k5, k6⟩ | ⟨rfl, rfl, k3⟩
    · refine ⟨hE2, rfl, ?_⟩
      rcases Nat.lt_or_ge L L' with hlt | hge
      · have := k6 L h1 hlt
        rw [show (2 : Int).toNat = 2 from rfl, h5'] at this; cases this
      · omega
    · have := k3 L h1 (by omega)
      rw [show (2 : Int).toNat = 2 from rfl, h5'] at this; cases this
  · cases hb
theorem short_f {l : List Int} {f n : Int} (h : ShortIs l f n true) : f = 1 ∨ f = 2 := by
  by_cases hE : searchE l 1 f = 0
  · have := searchE_f hE; omega
  · exact absurd (h.2 hE).2 (by simp)

set_option maxRecDepth 100000 in
set_option maxHeartbeats 1000000 in
theorem pulseShortest_walk (A : Option Addr) (l : List Int) (cap : Nat) (f : Int) (w : World) (hr : Rd w A (ints l)) (_hf : (Lit.int .i64 f).wf = true) :
    Calls Try.prog 15 #[.slice A l.length cap, .int .i64 f] w fun e w' => e = .returned (.bool true) ∧ Below w.heap.size w w' := by
  by_cases h1 : 100 < l.length
  · have h1' : decide (100 < l.length) = true := by simpa using h1
    go_enter Try.func15, Try.ntmps15
    go_wp2_with (first | (go_at_call 17; refine (long_c _ _ _ _).mono ?_; rintro e w' ⟨rfl, rfl⟩) | (go_at_call 18; refine (known_c _).mono ?_; rintro e w' ⟨rfl, hb1⟩))
    go_ret
    exact ⟨rfl, hb1⟩
  · have h1' : decide (100 < l.length) = false := by simpa using h1
    have HA := Lib.hid (shortest_c A l cap f w (by omega) hr)
    have HB := fun w1 (hb : Below w.heap.size w w1) => Lib.hid (rshortest_c A l cap f w1 (by omega) (hr.later hb))
    have HC := fun w1 (hb : Below w.heap.size w w1) => Lib.hid (shortest_c A l cap 2 w1 (by omega) (hr.later hb))
    have HS := Lib.hid (fun n n' b b' => @short_same l f n n' b b')
    have HM := Lib.hid (fun n n' b' => @short_more l n n' b')
    have HF := Lib.hid (fun n => @short_f l f n)
    generalize searchE l 1 f = E at HA HB
    generalize searchE l 1 2 = E2 at HC HM
    go_enter Try.func15, Try.ntmps15
    go_wp2_with (go_at_call 17; refine (long_c _ _ _ _).mono ?_; rintro e w' ⟨rfl, rfl⟩)
    refine HA.out.mono ?_
    rintro e w1 ⟨n, b, rfl, hs1, hb1⟩
    go_wp2_with (fail)
    refine (HB w1 hb1).out.mono ?_
    rintro e w2 ⟨n', b', rfl, hs2, hb2⟩
    obtain ⟨rfl, rfl⟩ := HS.out _ _ _ _ hs1 hs2
    have hw2 := bl_call hb1 hb2
    have HC2 := HC _ hw2
    clear HA HB HC HS hs2
    cases b' with
    | false =>
      clear hs1
      go_wp2_with (fail)
      refine (known_c _).mono ?_
      rintro e w9 ⟨rfl, hb9⟩
      go_wp2_with (fail)
      go_ret
      exact ⟨rfl, bl_call hw2 hb9⟩
    | true =>
      rcases HF.out _ hs1 with rfl | rfl
      · have HM1 : Hid (∀ n2 b2, ShortIs l 2 n2 b2 → E2 = 0 ∧ b2 = true ∧ n2 ≤ n') := fun n2 b2 h => HM.out _ _ _ hs1 h
        clear HM HF hs1
        go_wp2_with (fail)
        refine HC2.out.mono ?_
        rintro e w3 ⟨n2, b2, rfl, hs3, hb3⟩
        obtain ⟨rfl, rfl, hle⟩ := HM1.out _ _ hs3
        have hw3 := bl_call hw2 hb3
        clear HM1 hs3 HC2
        go_wp2_with (fail)
        refine (known_c _).mono ?_
        rintro e w9 ⟨rfl, hb9⟩
        go_wp2_with (fail)
        go_ret
        exact ⟨rfl, bl_call hw3 hb9⟩
      · clear hs1 HM HF HC2
        go_wp2_with (fail)
        refine (known_c _).mono ?_
        rintro e w9 ⟨rfl, hb9⟩
        go_wp2_with (fail)
        go_ret
        exact ⟨rfl, bl_call hw2 hb9⟩
end Go.Proofs.Ytpjdojjdhbmbjaa
