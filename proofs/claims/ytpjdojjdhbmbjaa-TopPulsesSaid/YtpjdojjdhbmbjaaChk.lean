/- Which pulses have an area in modes. -/
import Derived.Test.YtpjdojjdhbmbjaaMath
import Derived.Test.YtpjdojjdhbmbjaaKnown
import Derived.Test.YtpjdojjdhbmbjaaCmp
namespace Go.Proofs.Ytpjdojjdhbmbjaa
open Go.RowKit

def closedAllR (p l : List Int) : Bool := l.all (fun m => endR m p == (0, 0))

set_option maxHeartbeats 1000000 in
theorem closedIn_c (A B : Option Addr) (p l : List Int) (cap cap' : Nat) (w : World) (hlen : p.length ≤ 1000) (hlen' : l.length ≤ 9223372036854775806) (hr : Rd w A (ints p)) (hl : Rd w B (ints l)) :
    Calls Try.prog 78 #[.slice A p.length cap, .slice B l.length cap'] w fun e w' => e = .returned (.bool (closedAllR p l)) ∧ Below w.heap.size w w' := by
  go_enter Try.func78, Try.ntmps78
  go_wp2
  go_loopw [5] (fun i wr => ∃ k : Nat, k ≤ l.length ∧ i = .int .i64 k ∧ Hid ((l.take k).all (fun m => endR m p == (0, 0)) = true) ∧ Below w.heap.size w wr) (fun i _ => l.length - (intOf i).toNat)
  case atStart => exact ⟨0, Nat.zero_le _, rfl, by simp [Hid], Below.refl _ _⟩
  case round =>
    obtain ⟨k, hk, rfl, hs, hb⟩ := hrel
    by_cases hlt : k < l.length
    · obtain ⟨b, o, rfl, _, hc⟩ := (hl.later hb).at_ (k := k) (by simpa using hlt)
      have hck := hc k _ (ints_get hlt)
      clear hc
      have H1 := Lib.hid (all_take_succ (fun m => endR m p == (0, 0)) hlt)
      have H2 := Lib.hid (@all_no (fun m => endR m p == (0, 0)) l k hlt)
      generalize l.getD k 0 = f at hck H1 H2
      go_wp2_with (fail)
      refine (rend_c _ _ _ _ _ hlen (hr.later hb)).mono ?_
      rintro e w1 ⟨u, v, rfl, huv, hb1⟩
      rw [← huv] at H1 H2
      have hb2 := bl_call hb hb1
      clear huv
      by_cases hu : u = 0 ∧ v = 0
      · obtain ⟨rfl, rfl⟩ := hu
        go_wp2_with (fail)
        go_roundw
        case rel => exact ⟨k + 1, by omega, by go_num, by show _ = _; rw [H1.out, hs.out]; rfl, hb2⟩
        case measure => simp [intOf]; omega
      · have hne : (((u, v) : Int × Int) == (0, 0)) = false := by
          rw [beq_eq_false_iff_ne]; intro e; cases e; exact hu ⟨rfl, rfl⟩
        have HN := Lib.hid (H2.out hne)
        clear H1 H2 hne
        by_cases hu0 : u = 0
        · have hv0 : ¬ v = 0 := fun h => hu ⟨hu0, h⟩
          subst hu0
          have hv1 : (v == 0) = false := by simpa using hv0
          clear hu
          go_wp2_with (fail)
          all_goals go_ret
          all_goals exact ⟨ret_b HN.out, hb2⟩
        · have hu1 : (u == 0) = false := by simpa using hu0
          clear hu
          go_wp2_with (fail)
          all_goals go_ret
          all_goals exact ⟨ret_b HN.out, hb2⟩
    · obtain rfl : k = l.length := by omega
      go_wp2_with (fail)
      go_ret
      exact ⟨ret_b (by have h := hs.out; rw [List.take_length] at h; exact h), hb⟩

/-- The error of Check, where c says whether the pulse is closed, and n is its area. -/
def chkE (p l : List Int) (a : Int) (c : Bool) (n : Int) : Int := if validE p = 0 then (if areModesL l then (if c && n == a then 0 else 7) else 1) else validE p

theorem amBelow {f : Nat} {args : Array Value} {w : World} {b : Bool} (h : Calls Try.prog f args w fun e w' => e = .returned (.bool b) ∧ Below w.heap.size w w') : Calls Try.prog f args w fun e w' => e = .returned (.bool b) ∧ Below w.heap.size w w' := h
theorem areModes_b (A : Option Addr) (l : List Int) (cap : Nat) (w : World) (hlen : l.length ≤ 9223372036854775806) (hr : Rd w A (ints l)) :
    Calls Try.prog 75 #[.slice A l.length cap] w fun e w' => e = .returned (.bool (areModesL l)) ∧ Below w.heap.size w w' :=
  (areModes_c A l cap w (by omega) hr).mono fun e w' ⟨he, hw⟩ => ⟨he, by rw [hw]; exact Below.refl _ _⟩
theorem rareModes_b (A : Option Addr) (l : List Int) (cap : Nat) (w : World) (hlen : l.length ≤ 9223372036854775806) (hr : Rd w A (ints l)) :
    Calls Try.prog 77 #[.slice A l.length cap] w fun e w' => e = .returned (.bool (areModesL l)) ∧ Below w.heap.size w w' := rareModes_c A l cap w (by omega) hr

set_option maxHeartbeats 1000000 in
theorem check_c (A B : Option Addr) (p l : List Int) (cap cap' : Nat) (a : Int) (w : World) (hlen : p.length ≤ 1000) (hlen' : l.length ≤ 9223372036854775806) (hr : Rd w A (ints p)) (hl : Rd w B (ints l)) :
    Calls Try.prog 49 #[.slice A p.length cap, .slice B l.length cap', .int .i64 a] w fun e w' => e = .returned (.int .i64 (chkE p l a (closedAllB p l) (areaP (pathL (l.getD 0 0) p)))) ∧ Below w.heap.size w w' := by
  have HV := Lib.hid (validate_c A p cap w hr)
  have HA := Lib.hid (areModes_b B l cap' w hlen' hl)
  have HE : Hid (∀ c n, chkE p l a c n = if validE p = 0 then (if areModesL l then (if c && n == a then 0 else 7) else 1) else validE p) := fun _ _ => rfl
  have hmpos : areModesL l = true → 0 < l.length := areModes_len
  generalize chkE p l a = X at HE
  generalize validE p = v at HV HE
  generalize areModesL l = b at HA HE hmpos
  by_cases hv : (v != 0) = true
  · go_enter Try.func49, Try.ntmps49
    go_wp2_with (fail)
    refine HV.out.mono ?_
    rintro e w' ⟨rfl, rfl⟩
    go_wp2_with (fail)
    go_ret
    exact ⟨ret_i (by rw [HE.out, if_neg (by simpa using hv)]), Below.refl _ _⟩
  · have hv' : (v != 0) = false := by simpa using hv
    clear hv
    cases b with
    | false =>
      go_enter Try.func49, Try.ntmps49
      go_wp2_with (fail)
      refine HV.out.mono ?_
      rintro e w' ⟨rfl, rfl⟩
      go_wp2_with (fail)
      refine (amBelow HA.out).mono ?_
      rintro e w1 ⟨rfl, hb1⟩
      go_wp2_with (fail)
      go_ret
      exact ⟨ret_i (by rw [HE.out, if_pos (by simpa using hv')]; rfl), hb1⟩
    | true =>
      have hl0 := hmpos rfl
      clear hmpos
      obtain ⟨bb, o, rfl, hbb, hc⟩ := hl.at_ (k := 0) (by simpa using hl0)
      have hc0 := hc 0 _ (ints_get hl0)
      rw [Nat.add_zero] at hc0
      clear hc
      generalize l.getD 0 0 = m at hc0 ⊢
      have HC := fun w1 (hb : Below w.heap.size w w1) => Lib.hid (closedInAll_c A (some ⟨bb, o, none⟩) p l cap cap' w1 (by omega) hlen' (hr.later hb) (hl.later hb))
      generalize closedAllB p l = c at HC
      go_enter Try.func49, Try.ntmps49
      go_wp2_with (fail)
      refine HV.out.mono ?_
      rintro e w' ⟨rfl, rfl⟩
      go_wp2_with (fail)
      refine (amBelow HA.out).mono ?_
      rintro e w1 ⟨rfl, hb1⟩
      go_wp2_with (fail)
      refine (HC w1 hb1).out.mono ?_
      rintro e w2 ⟨rfl, hb2⟩
      have hbw := bl_call hb1 hb2
      have hc2 : w2.cell? ⟨bb, o, none⟩ = some (.int .i64 m) := (hbw.cell (p := ⟨bb, o, none⟩) hbb).trans hc0
      clear HC
      cases c with
      | false =>
        go_wp2_with (fail)
        go_ret
        exact ⟨ret_i (by rw [HE.out, if_pos (by simpa using hv')]; rfl), hbw⟩
      | true =>
        go_wp2_with (fail)
        refine (areaOf_c A p cap m w2 (by omega) (hr.later hbw)).mono ?_
        rintro e w3 ⟨rfl, hb3⟩
        have hb4 := bl_call hbw hb3
        by_cases hna : (areaP (pathL m p) != a) = true
        · go_wp2_with (fail)
          go_ret
          exact ⟨ret_i (by
            have h1 : (areaP (pathL m p) == a) = false := by simpa using hna
            rw [HE.out, if_pos (by simpa using hv'), h1]; rfl), hb4⟩
        · have hna' : (areaP (pathL m p) != a) = false := by simpa using hna
          clear hna
          go_wp2_with (fail)
          go_ret
          exact ⟨ret_i (by
            have h1 : (areaP (pathL m p) == a) = true := by simpa using hna'
            rw [HE.out, if_pos (by simpa using hv'), h1]; rfl), hb4⟩

set_option maxHeartbeats 1000000 in
theorem rcheck_c (A B : Option Addr) (p l : List Int) (cap cap' : Nat) (a : Int) (w : World) (hlen : p.length ≤ 1000) (hlen' : l.length ≤ 9223372036854775806) (hr : Rd w A (ints p)) (hl : Rd w B (ints l)) :
    Calls Try.prog 50 #[.slice A p.length cap, .slice B l.length cap', .int .i64 a] w fun e w' => e = .returned (.int .i64 (chkE p l a (closedAllR p l) (areaR (l.getD 0 0) p))) ∧ Below w.heap.size w w' := by
  have HV := Lib.hid (rvalidate_c A p cap w hr)
  have HA := Lib.hid (rareModes_b B l cap' w hlen' hl)
  have HE : Hid (∀ c n, chkE p l a c n = if validE p = 0 then (if areModesL l then (if c && n == a then 0 else 7) else 1) else validE p) := fun _ _ => rfl
  have hmpos : areModesL l = true → 0 < l.length := areModes_len
  generalize chkE p l a = X at HE
  generalize validE p = v at HV HE
  generalize areModesL l = b at HA HE hmpos
  by_cases hv : (v != 0) = true
  · go_enter Try.func50, Try.ntmps50
    go_wp2_with (fail)
    refine HV.out.mono ?_
    rintro e w' ⟨rfl, rfl⟩
    go_wp2_with (fail)
    go_ret
    exact ⟨ret_i (by rw [HE.out, if_neg (by simpa using hv)]), Below.refl _ _⟩
  · have hv' : (v != 0) = false := by simpa using hv
    clear hv
    cases b with
    | false =>
      go_enter Try.func50, Try.ntmps50
      go_wp2_with (fail)
      refine HV.out.mono ?_
      rintro e w' ⟨rfl, rfl⟩
      go_wp2_with (fail)
      refine (amBelow HA.out).mono ?_
      rintro e w1 ⟨rfl, hb1⟩
      go_wp2_with (fail)
      go_ret
      exact ⟨ret_i (by rw [HE.out, if_pos (by simpa using hv')]; rfl), hb1⟩
    | true =>
      have hl0 := hmpos rfl
      clear hmpos
      obtain ⟨bb, o, rfl, hbb, hc⟩ := hl.at_ (k := 0) (by simpa using hl0)
      have hc0 := hc 0 _ (ints_get hl0)
      rw [Nat.add_zero] at hc0
      clear hc
      generalize l.getD 0 0 = m at hc0 ⊢
      have HC := fun w1 (hb : Below w.heap.size w w1) => Lib.hid (closedIn_c A (some ⟨bb, o, none⟩) p l cap cap' w1 (by omega) hlen' (hr.later hb) (hl.later hb))
      generalize closedAllR p l = c at HC
      go_enter Try.func50, Try.ntmps50
      go_wp2_with (fail)
      refine HV.out.mono ?_
      rintro e w' ⟨rfl, rfl⟩
      go_wp2_with (fail)
      refine (amBelow HA.out).mono ?_
      rintro e w1 ⟨rfl, hb1⟩
      go_wp2_with (fail)
      refine (HC w1 hb1).out.mono ?_
      rintro e w2 ⟨rfl, hb2⟩
      have hbw := bl_call hb1 hb2
      have hc2 : w2.cell? ⟨bb, o, none⟩ = some (.int .i64 m) := (hbw.cell (p := ⟨bb, o, none⟩) hbb).trans hc0
      clear HC
      cases c with
      | false =>
        go_wp2_with (fail)
        go_ret
        exact ⟨ret_i (by rw [HE.out, if_pos (by simpa using hv')]; rfl), hbw⟩
      | true =>
        go_wp2_with (fail)
        refine (rarea_c A p cap m w2 (by omega) (hr.later hbw)).mono ?_
        rintro e w3 ⟨rfl, hb3⟩
        have hb4 := bl_call hbw hb3
        by_cases hna : (areaR m p != a) = true
        · go_wp2_with (fail)
          go_ret
          exact ⟨ret_i (by
            have h1 : (areaR m p == a) = false := by simpa using hna
            rw [HE.out, if_pos (by simpa using hv'), h1]; rfl), hb4⟩
        · have hna' : (areaR m p != a) = false := by simpa using hna
          clear hna
          go_wp2_with (fail)
          go_ret
          exact ⟨ret_i (by
            have h1 : (areaR m p == a) = true := by simpa using hna'
            rw [HE.out, if_pos (by simpa using hv'), h1]; rfl), hb4⟩

theorem chk_same (p l : List Int) (a : Int) : chkE p l a (closedAllB p l) (areaP (pathL (l.getD 0 0) p)) = chkE p l a (closedAllR p l) (areaR (l.getD 0 0) p) := by
  unfold chkE
  by_cases hv : validE p = 0
  · by_cases hm : areModesL l = true
    · have hin : ∀ k, k < l.length → Ok p (l.getD k 0) := fun k hk => ok_of (by
        unfold inE
        rw [if_pos hv, if_pos]
        simp only [areModesL, Bool.and_eq_true, isSetL, List.all_eq_true, List.mem_range] at hm
        have := hm.2 k hk
        simp only [setOk, Bool.and_eq_true] at this
        exact this.1)
      have e1 : closedAllB p l = closedAllR p l := by
        unfold closedAllB closedAllR
        rw [Bool.eq_iff_iff, List.all_eq_true, List.all_eq_true]
        have hx : ∀ x ∈ l, closedB p x = (endR x p == (0, 0)) := by
          intro x hx
          obtain ⟨k, hk, rfl⟩ := List.getElem_of_mem hx
          have := hin k hk
          simp only [List.getD_eq_getElem?_getD, List.getElem?_eq_getElem hk, Option.getD_some] at this
          rw [closedB, end_same this]
        exact ⟨fun h x hm => by rw [← hx x hm]; exact h x hm, fun h x hm => by rw [hx x hm]; exact h x hm⟩
      have e2 := area_same (hin 0 (areModes_len hm))
      simp only [e1, e2]
    · simp [hm]
  · simp [hv]

set_option maxHeartbeats 1000000 in
theorem pulseChecks_walk (A : Option Addr) (p : List Int) (cap : Nat) (B : Option Addr) (l : List Int) (cap' : Nat) (a : Int) (w : World) (hr : Rd w A (ints p)) (hl : Rd w B (ints l)) (_ha : (Lit.int .i64 a).wf = true) :
    Calls Try.prog 12 #[.slice A p.length cap, .slice B l.length cap', .int .i64 a] w fun e w' => e = .returned (.bool true) ∧ Below w.heap.size w w' := by
  by_cases h1 : 100 < p.length
  · have h1' : decide (100 < p.length) = true := by simpa using h1
    go_enter Try.func12, Try.ntmps12
    go_wp2_with (first | (go_at_call 17; refine (long_c _ _ _ _).mono ?_; rintro e w' ⟨rfl, rfl⟩) | (go_at_call 18; refine (known_c _).mono ?_; rintro e w' ⟨rfl, hb1⟩))
    go_ret
    exact ⟨rfl, hb1⟩
  · have h1' : decide (100 < p.length) = false := by simpa using h1
    by_cases h2 : 100 < l.length
    · have h2' : decide (100 < l.length) = true := by simpa using h2
      go_enter Try.func12, Try.ntmps12
      go_wp2_with (first | (go_at_call 17; refine (long_c _ _ _ _).mono ?_; rintro e w' ⟨rfl, rfl⟩) | (go_at_call 18; refine (known_c _).mono ?_; rintro e w' ⟨rfl, hb1⟩))
      go_ret
      exact ⟨rfl, hb1⟩
    · have h2' : decide (100 < l.length) = false := by simpa using h2
      have H1 := Lib.hid (check_c A B p l cap cap' a w (by omega) (by omega) hr hl)
      have H2 := fun w1 (hb : Below w.heap.size w w1) => Lib.hid (rcheck_c A B p l cap cap' a w1 (by omega) (by omega) (hr.later hb) (hl.later hb))
      rw [chk_same p l a] at H1
      generalize chkE p l a (closedAllR p l) (areaR (l.getD 0 0) p) = E at H1 H2
      go_enter Try.func12, Try.ntmps12
      go_wp2_with (go_at_call 17; refine (long_c _ _ _ _).mono ?_; rintro e w' ⟨rfl, rfl⟩)
      refine H1.out.mono ?_
      rintro e w1 ⟨rfl, hb1⟩
      go_wp2_with (fail)
      refine (H2 w1 hb1).out.mono ?_
      rintro e w2 ⟨rfl, hb2⟩
      go_wp2_with (fail)
      refine (known_c _).mono ?_
      rintro e w3 ⟨rfl, hb3⟩
      go_wp2_with (fail)
      go_ret
      exact ⟨rfl, bl_call (bl_call hb1 hb2) hb3⟩
end Go.Proofs.Ytpjdojjdhbmbjaa
