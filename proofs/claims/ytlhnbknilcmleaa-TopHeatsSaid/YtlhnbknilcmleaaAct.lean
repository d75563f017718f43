/- Contracts of the small functions: which acts, plans and limits are right; package heat's and the specification's. -/
import Derived.Test.YtlhnbknilcmleaaTri
namespace Go.Proofs.Ytlhnbknilcmleaa
open Go.RowKit

def oneB (x c : Int) : Bool := decide (0 ≤ x) && decide (x < c)
theorem oneB_inB (x c : Int) : oneB x c = inB x 0 (c - 1) := by
  unfold oneB inB
  congr 1
  rw [decide_eq_decide]; omega
theorem isOneOf_c (x c : Int) (w : World) : Calls Try.prog 69 #[.int .i64 x, .int .i64 c] w fun e w' => e = .returned (.bool (oneB x c)) ∧ w = w' := by
  by_cases h1 : 0 ≤ x
  · by_cases h2 : x < c
    all_goals
      go_enter Try.func69, Try.ntmps69
      go_wp2
      go_ret
      exact ⟨ret_b (by simp [oneB]; omega), rfl⟩
  · go_enter Try.func69, Try.ntmps69
    go_wp2
    go_ret
    exact ⟨ret_b (by simp [oneB]; omega), rfl⟩
theorem within_c (n lo hi : Int) (w : World) : Calls Try.prog 59 #[.int .i64 n, .int .i64 lo, .int .i64 hi] w fun e w' => e = .returned (.bool (inB n lo hi)) ∧ w = w' := by
  by_cases h1 : lo ≤ n
  · by_cases h2 : n ≤ hi
    all_goals
      go_enter Try.func59, Try.ntmps59
      go_wp2
      go_ret
      exact ⟨ret_b (by simp [inB]; omega), rfl⟩
  · go_enter Try.func59, Try.ntmps59
    go_wp2
    go_ret
    exact ⟨ret_b (by simp [inB]; omega), rfl⟩

set_option maxRecDepth 100000 in
set_option maxHeartbeats 2000000 in
theorem isAct_c (n k i h : Int) (w : World) : Calls Try.prog 79 #[.int .i64 n, .agg #[.int .i64 k, .int .i64 i, .int .i64 h]] w fun e w' => e = .returned (.bool (actB n (k, i, h))) ∧ Below w.heap.size w w' := by
  have HO := fun w => Lib.hid (isOneOf_c i n w)
  have HV : Hid (actB n (k, i, h) = (inB k 0 2 && oneB i n && inB h 0 100 && (k != 2 || h == 0))) := by show _ = _; rw [actB, oneB_inB]
  generalize oneB i n = o at HO HV
  have hx := Bx.new w 61 #[.int .i64 k, .int .i64 i, .int .i64 h]
  obtain ⟨c0, c1, c2, _, _, _⟩ := hx.three
  have hb0 := bl_alloc (Below.refl w.heap.size w) (.cells #[.int .i64 k, .int .i64 i, .int .i64 h] 61)
  cases o with
  | false =>
    go_enter Try.func79, Try.ntmps79
    go_wp2_with (go_at_call 69; refine (HO _).out.mono ?_; rintro e w1 ⟨rfl, rfl⟩)
    all_goals
      go_ret
      exact ⟨ret_b (by rw [HV.out]; simp), hb0⟩
  | true =>
    by_cases h1 : h < 0
    · go_enter Try.func79, Try.ntmps79
      go_wp2_with (go_at_call 69; refine (HO _).out.mono ?_; rintro e w1 ⟨rfl, rfl⟩)
      all_goals
        go_ret
        exact ⟨ret_b (by rw [HV.out, inB_no.2 (show ¬ (0 ≤ h ∧ h ≤ 100) by omega)]; simp), hb0⟩
    · by_cases h2 : 100 < h
      · go_enter Try.func79, Try.ntmps79
        go_wp2_with (go_at_call 69; refine (HO _).out.mono ?_; rintro e w1 ⟨rfl, rfl⟩)
        all_goals
          go_ret
          exact ⟨ret_b (by rw [HV.out, inB_no.2 (show ¬ (0 ≤ h ∧ h ≤ 100) by omega)]; simp), hb0⟩
      · have hi : inB h 0 100 = true := inB_z.2 (by omega)
        by_cases k0 : k = 0
        · subst k0
          go_enter Try.func79, Try.ntmps79
          go_wp2_with (go_at_call 69; refine (HO _).out.mono ?_; rintro e w1 ⟨rfl, rfl⟩)
          all_goals
            go_ret
            exact ⟨ret_b (by rw [HV.out, hi]; rfl), hb0⟩
        · by_cases k1 : k = 1
          · subst k1
            go_enter Try.func79, Try.ntmps79
            go_wp2_with (go_at_call 69; refine (HO _).out.mono ?_; rintro e w1 ⟨rfl, rfl⟩)
            all_goals
              go_ret
              exact ⟨ret_b (by rw [HV.out, hi]; rfl), hb0⟩
          · by_cases k2 : k = 2
            · subst k2
              go_enter Try.func79, Try.ntmps79
              go_wp2_with (go_at_call 69; refine (HO _).out.mono ?_; rintro e w1 ⟨rfl, rfl⟩)
              all_goals
                go_ret
                exact ⟨ret_b (by rw [HV.out, hi]; simp [inB]), hb0⟩
            · have hk : inB k 0 2 = false := inB_no.2 (by omega)
              have q0 : (k == 0) = false := by simpa using k0
              have q1 : (k == 1) = false := by simpa using k1
              have q2 : (k == 2) = false := by simpa using k2
              go_enter Try.func79, Try.ntmps79
              go_wp2_with (go_at_call 69; refine (HO _).out.mono ?_; rintro e w1 ⟨rfl, rfl⟩)
              all_goals
                go_ret
                exact ⟨ret_b (by rw [HV.out, hk]; rfl), hb0⟩

set_option maxHeartbeats 1000000 in
theorem validateActs_c (n : Int) (A : Option Addr) (l : List T3) (cap : Nat) (w : World) (hlen : l.length ≤ 1000) (hr : Rd w A (cellsT l)) :
    Calls Try.prog 58 #[.int .i64 n, .slice A l.length cap] w fun e w' => e = .returned (.int .i64 (actsE n l)) ∧ Below w.heap.size w w' := by
  go_enter Try.func58, Try.ntmps58
  go_wp2
  go_loopw [9] (fun i wr => ∃ k : Nat, k ≤ l.length ∧ i = .int .i64 k ∧ Hid ((l.take k).all (actB n) = true) ∧ Below w.heap.size w wr) (fun i _ => l.length - (intOf i).toNat)
  case atStart => exact ⟨0, Nat.zero_le _, rfl, by simp [Hid], Below.refl _ _⟩
  case round =>
    obtain ⟨k, hk, rfl, hall, hb⟩ := hrel
    by_cases hlt : k < l.length
    · obtain ⟨b, o, rfl, hbl, c0, c1, c2⟩ := (hr.later hb).tri hlt
      have H1 := Lib.hid (@all_take (actB n) l k hlt)
      have H2 := Lib.hid (@all_no (actB n) l k hlt)
      generalize l.getD k t0 = g at c0 c1 c2 H1 H2
      obtain ⟨gk, gi, gh⟩ := g
      simp only [] at c0 c1 c2
      have HG := fun w => Lib.hid (isAct_c n gk gi gh w)
      generalize actB n (gk, gi, gh) = v at HG H1 H2
      cases v with
      | true =>
        go_wp2_with (fail)
        refine (HG _).out.mono ?_
        rintro e w1 ⟨rfl, hb1⟩
        go_wp2_with (fail)
        go_roundw
        case rel => exact ⟨k + 1, by omega, by go_num, by show _ = _; rw [H1.out, hall.out]; rfl, bl_call (bl_alloc hb _) hb1⟩
        case measure => simp [intOf]; omega
      | false =>
        go_wp2_with (fail)
        refine (HG _).out.mono ?_
        rintro e w1 ⟨rfl, hb1⟩
        go_wp2_with (fail)
        go_ret
        exact ⟨ret_i (by rw [actsE, H2.out (by simp)]; rfl), bl_call (bl_alloc hb _) hb1⟩
    · obtain rfl : k = l.length := by omega
      go_wp2_with (fail)
      go_ret
      exact ⟨ret_i (by have h := hall.out; rw [List.take_length] at h; rw [actsE, h]; rfl), hb⟩

theorem validate_c (n : Int) (A : Option Addr) (l : List T3) (cap : Nat) (w : World) (hlen : l.length ≤ 1000) (hr : Rd w A (cellsT l)) :
    Calls Try.prog 24 #[.int .i64 n, .slice A l.length cap] w fun e w' => e = .returned (.int .i64 (validE n l)) ∧ Below w.heap.size w w' := by
  by_cases h1 : n < 1
  · go_enter Try.func24, Try.ntmps24
    go_wp2_with (fail)
    go_ret
    exact ⟨ret_i (by rw [validE, if_neg (by rw [inB_z]; omega)]), Below.refl _ _⟩
  · by_cases h2 : 4 < n
    · go_enter Try.func24, Try.ntmps24
      go_wp2_with (fail)
      go_ret
      exact ⟨ret_i (by rw [validE, if_neg (by rw [inB_z]; omega)]), Below.refl _ _⟩
    · by_cases h3 : 20 < l.length
      · have h3' : (20 : Int) < (l.length : Int) := by omega
        go_enter Try.func24, Try.ntmps24
        go_wp2_with (fail)
        go_ret
        exact ⟨ret_i (by rw [validE, if_pos (by rw [inB_z]; omega), if_neg (by omega)]), Below.refl _ _⟩
      · have h3' : ¬ (20 : Int) < (l.length : Int) := by omega
        go_enter Try.func24, Try.ntmps24
        go_wp2_with (go_at_call 58; refine (validateActs_c n A l cap w hlen hr).mono ?_; rintro e w1 ⟨rfl, hb1⟩)
        go_ret
        exact ⟨ret_i (by rw [validE, if_pos (by rw [inB_z]; omega), if_pos (by omega)]), hb1⟩
theorem limE_cases (n : Int) (l : List T3) (lim : Int) : (validE n l ≠ 0 ∧ limE n l lim = validE n l) ∨ (validE n l = 0 ∧ lim < 0 ∧ limE n l lim = 1) ∨ (validE n l = 0 ∧ 0 ≤ lim ∧ 100 < lim ∧ limE n l lim = 1) ∨ (validE n l = 0 ∧ 0 ≤ lim ∧ lim ≤ 100 ∧ limE n l lim = 0) := by
  by_cases hv : validE n l = 0
  · by_cases h1 : lim < 0
    · exact .inr (.inl ⟨hv, h1, by rw [limE, if_pos hv, if_neg (by rw [inB_z]; omega)]⟩)
    · by_cases h2 : 100 < lim
      · exact .inr (.inr (.inl ⟨hv, by omega, h2, by rw [limE, if_pos hv, if_neg (by rw [inB_z]; omega)]⟩))
      · exact .inr (.inr (.inr ⟨hv, by omega, by omega, by rw [limE, if_pos hv, if_pos (by rw [inB_z]; omega)]⟩))
  · exact .inl ⟨hv, by rw [limE, if_neg hv]⟩
theorem validateBy_c (n : Int) (A : Option Addr) (l : List T3) (cap : Nat) (lim : Int) (w : World) (hlen : l.length ≤ 1000) (hr : Rd w A (cellsT l)) :
    Calls Try.prog 61 #[.int .i64 n, .slice A l.length cap, .int .i64 lim] w fun e w' => e = .returned (.int .i64 (limE n l lim)) ∧ Below w.heap.size w w' := by
  have HV := Lib.hid (validate_c n A l cap w hlen hr)
  rcases limE_cases n l lim with ⟨hv, hE⟩ | ⟨hv, h1, hE⟩ | ⟨hv, h1, h2, hE⟩ | ⟨hv, h1, h2, hE⟩
  · have hv' : (validE n l != 0) = true := by simpa using hv
    rw [hE]
    generalize validE n l = v at *
    clear hE
    go_enter Try.func61, Try.ntmps61
    go_wp2_with (go_at_call 24; refine HV.out.mono ?_; rintro e w1 ⟨rfl, hb1⟩)
    go_ret
    exact ⟨rfl, hb1⟩
  all_goals
    rw [hv] at HV
    rw [hE]
    clear hv hE
    go_enter Try.func61, Try.ntmps61
    go_wp2_with (go_at_call 24; refine HV.out.mono ?_; rintro e w1 ⟨rfl, hb1⟩)
    go_ret
    exact ⟨rfl, hb1⟩

/- The specification's. -/
set_option maxRecDepth 100000 in
set_option maxHeartbeats 2000000 in
theorem risAct_c (n k i h : Int) (w : World) (hn : 1 ≤ n ∧ n ≤ 4) : Calls Try.prog 80 #[.int .i64 n, .agg #[.int .i64 k, .int .i64 i, .int .i64 h]] w fun e w' => e = .returned (.bool (actB n (k, i, h))) ∧ Below w.heap.size w w' := by
  have HV : Hid (actB n (k, i, h) = (inB k 0 2 && inB i 0 (n - 1) && inB h 0 100 && (k != 2 || h == 0))) := rfl
  have hn1 := hn.1
  have hn4 := hn.2
  have hb0 := bl_alloc (Below.refl w.heap.size w) (.cells #[.int .i64 k, .int .i64 i, .int .i64 h] 61)
  cases b1 : inB k 0 2 with
  | false =>
    have HR : Hid (actB n (k, i, h) = false) := by show _ = _; rw [HV.out, b1]; rfl
    go_enter Try.func80, Try.ntmps80
    go_wp2_with (go_at_call 59; refine (within_c _ _ _ _).mono ?_; rintro e w' ⟨rfl, rfl⟩)
    go_ret
    exact ⟨by rw [HR.out]; rfl, hb0⟩
  | true =>
    cases b2 : inB i 0 (n - 1) with
    | false =>
      have HR : Hid (actB n (k, i, h) = false) := by show _ = _; rw [HV.out, b1, b2]; rfl
      go_enter Try.func80, Try.ntmps80
      go_wp2_with (go_at_call 59; refine (within_c _ _ _ _).mono ?_; rintro e w' ⟨rfl, rfl⟩)
      go_ret
      exact ⟨by rw [HR.out]; rfl, hb0⟩
    | true =>
      cases b3 : inB h 0 100 with
      | false =>
        have HR : Hid (actB n (k, i, h) = false) := by show _ = _; rw [HV.out, b1, b2, b3]; rfl
        go_enter Try.func80, Try.ntmps80
        go_wp2_with (go_at_call 59; refine (within_c _ _ _ _).mono ?_; rintro e w' ⟨rfl, rfl⟩)
        go_ret
        exact ⟨by rw [HR.out]; rfl, hb0⟩
      | true =>
        by_cases k2 : k = 2
        · subst k2
          have HR : Hid (actB n (2, i, h) = (h == 0)) := by show _ = _; rw [HV.out, b1, b2, b3]; rfl
          go_enter Try.func80, Try.ntmps80
          go_wp2_with (go_at_call 59; refine (within_c _ _ _ _).mono ?_; rintro e w' ⟨rfl, rfl⟩)
          go_ret
          exact ⟨by rw [HR.out]; rfl, hb0⟩
        · have q2 : (k != 2) = true := by simpa using k2
          have HR : Hid (actB n (k, i, h) = true) := by show _ = _; rw [HV.out, b1, b2, b3, q2]; rfl
          go_enter Try.func80, Try.ntmps80
          go_wp2_with (go_at_call 59; refine (within_c _ _ _ _).mono ?_; rintro e w' ⟨rfl, rfl⟩)
          go_ret
          exact ⟨by rw [HR.out]; rfl, hb0⟩

set_option maxHeartbeats 1000000 in
theorem rareActs_c (n : Int) (A : Option Addr) (l : List T3) (cap : Nat) (w : World) (hn : 1 ≤ n ∧ n ≤ 4) (hlen : l.length ≤ 1000) (hr : Rd w A (cellsT l)) :
    Calls Try.prog 60 #[.int .i64 n, .slice A l.length cap] w fun e w' => e = .returned (.bool (l.all (actB n))) ∧ Below w.heap.size w w' := by
  go_enter Try.func60, Try.ntmps60
  go_wp2_with (fail)
  go_loopg [5] l.length (fun gk iv wr => ∃ k : Nat, k + gk = l.length ∧ iv = .int .i64 (k : Int) ∧ Hid ((l.take k).all (actB n) = true) ∧ Below w.heap.size w wr)
  case atStart => exact ⟨0, by omega, rfl, by simp [Hid], Below.refl _ _⟩
  case round =>
    obtain ⟨k, hk, rfl, hall, hb⟩ := hrel
    rcases gk with _ | gi
    · obtain rfl : k = l.length := by omega
      have HE : Hid (l.all (actB n) = true) := by have h := hall.out; rwa [List.take_length] at h
      go_wp2_with (fail)
      go_ret
      exact ⟨by rw [HE.out]; rfl, hb⟩
    · have hlt : k < l.length := by omega
      have hlt' : (k : Int) < (l.length : Int) := by omega
      obtain ⟨b, o, rfl, hbl, c0, c1, c2⟩ := (hr.later hb).tri hlt
      have H1 := Lib.hid (@all_take (actB n) l k hlt)
      have H2 := Lib.hid (@all_no (actB n) l k hlt)
      generalize l.getD k t0 = g at c0 c1 c2 H1 H2
      obtain ⟨gk, gi', gh⟩ := g
      simp only [] at c0 c1 c2
      have HG := fun w => Lib.hid (risAct_c n gk gi' gh w hn)
      generalize actB n (gk, gi', gh) = v at HG H1 H2
      cases v with
      | true =>
        have H1' := H1.out
        rw [hall.out, Bool.true_and] at H1'
        have HN := Lib.hid H1'
        clear H1'
        go_wp2_with (fail)
        refine (HG _).out.mono ?_
        rintro e w1 ⟨rfl, hb1⟩
        go_wp2_with (fail)
        go_roundg gi
        case rel => exact ⟨k + 1, by omega, by go_num, HN, bl_call hb hb1⟩
        case measure => omega
      | false =>
        have HE : Hid (l.all (actB n) = false) := H2.out rfl
        go_wp2_with (fail)
        refine (HG _).out.mono ?_
        rintro e w1 ⟨rfl, hb1⟩
        go_wp2_with (fail)
        go_ret
        exact ⟨by rw [HE.out]; rfl, bl_call hb hb1⟩

theorem rvalidate_c (n : Int) (A : Option Addr) (l : List T3) (cap : Nat) (w : World) (hlen : l.length ≤ 1000) (hr : Rd w A (cellsT l)) :
    Calls Try.prog 25 #[.int .i64 n, .slice A l.length cap] w fun e w' => e = .returned (.int .i64 (validE n l)) ∧ Below w.heap.size w w' := by
  have HW := fun w => Lib.hid (within_c n 1 4 w)
  cases hin : inB n 1 4 with
  | false =>
    rw [hin] at HW
    have HE : Hid (validE n l = 1) := by show _ = _; rw [validE, hin]; rfl
    go_enter Try.func25, Try.ntmps25
    go_wp2_with (go_at_call 59; refine (HW _).out.mono ?_; rintro e w1 ⟨rfl, rfl⟩)
    go_ret
    exact ⟨by rw [HE.out]; rfl, Below.refl _ _⟩
  | true =>
    rw [hin] at HW
    have hn := inB_z.1 hin
    by_cases h3 : 20 < l.length
    · have h3' : (20 : Int) < (l.length : Int) := by omega
      have HE : Hid (validE n l = 3) := by show _ = _; rw [validE, hin, if_pos rfl, if_neg (by omega)]
      go_enter Try.func25, Try.ntmps25
      go_wp2_with (go_at_call 59; refine (HW _).out.mono ?_; rintro e w1 ⟨rfl, rfl⟩)
      go_ret
      exact ⟨by rw [HE.out]; rfl, Below.refl _ _⟩
    · have h3' : ¬ (20 : Int) < (l.length : Int) := by omega
      have HE : Hid (validE n l = actsE n l) := by show _ = _; rw [validE, hin, if_pos rfl, if_pos (by omega)]
      have HA := Lib.hid (rareActs_c n A l cap w hn hlen hr)
      have HX : Hid (actsE n l = if l.all (actB n) then 0 else 1) := rfl
      clear hn hin
      generalize l.all (actB n) = v at HA HX
      cases v with
      | true =>
        have HF : Hid (validE n l = 0) := by show _ = _; rw [HE.out, HX.out]; rfl
        go_enter Try.func25, Try.ntmps25
        go_wp2_with (first | (go_at_call 59; refine (HW _).out.mono ?_; rintro e w1 ⟨rfl, rfl⟩) | (go_at_call 60; refine HA.out.mono ?_; rintro e w1 ⟨rfl, hb1⟩))
        go_ret
        exact ⟨by rw [HF.out]; rfl, hb1⟩
      | false =>
        have HF : Hid (validE n l = 1) := by show _ = _; rw [HE.out, HX.out]; rfl
        go_enter Try.func25, Try.ntmps25
        go_wp2_with (first | (go_at_call 59; refine (HW _).out.mono ?_; rintro e w1 ⟨rfl, rfl⟩) | (go_at_call 60; refine HA.out.mono ?_; rintro e w1 ⟨rfl, hb1⟩))
        go_ret
        exact ⟨by rw [HF.out]; rfl, hb1⟩

theorem rlimited_c (n : Int) (A : Option Addr) (l : List T3) (cap : Nat) (lim : Int) (w : World) (hlen : l.length ≤ 1000) (hr : Rd w A (cellsT l)) :
    Calls Try.prog 63 #[.int .i64 n, .slice A l.length cap, .int .i64 lim] w fun e w' => e = .returned (.int .i64 (limE n l lim)) ∧ Below w.heap.size w w' := by
  have HV := Lib.hid (rvalidate_c n A l cap w hlen hr)
  by_cases hv : validE n l = 0
  · have HW := fun w => Lib.hid (within_c lim 0 100 w)
    have HE : Hid (limE n l lim = if inB lim 0 100 then 0 else 1) := by show _ = _; rw [limE, if_pos hv]
    rw [hv] at HV
    clear hv
    generalize inB lim 0 100 = v at HW HE
    cases v with
    | true =>
      have HF : Hid (limE n l lim = 0) := HE.out
      go_enter Try.func63, Try.ntmps63
      go_wp2_with (first | (go_at_call 59; refine (HW _).out.mono ?_; rintro e w2 ⟨rfl, rfl⟩) | (go_at_call 25; refine HV.out.mono ?_; rintro e w1 ⟨rfl, hb1⟩))
      go_ret
      exact ⟨by rw [HF.out]; rfl, hb1⟩
    | false =>
      have HF : Hid (limE n l lim = 1) := HE.out
      go_enter Try.func63, Try.ntmps63
      go_wp2_with (first | (go_at_call 59; refine (HW _).out.mono ?_; rintro e w2 ⟨rfl, rfl⟩) | (go_at_call 25; refine HV.out.mono ?_; rintro e w1 ⟨rfl, hb1⟩))
      go_ret
      exact ⟨by rw [HF.out]; rfl, hb1⟩
  · have hv' : (validE n l != 0) = true := by simpa using hv
    have HE : limE n l lim = validE n l := by rw [limE, if_neg hv]
    rw [HE]
    clear HE
    generalize validE n l = v at *
    go_enter Try.func63, Try.ntmps63
    go_wp2_with (go_at_call 25; refine HV.out.mono ?_; rintro e w1 ⟨rfl, hb1⟩)
    go_ret
    exact ⟨rfl, hb1⟩
end Go.Proofs.Ytlhnbknilcmleaa
