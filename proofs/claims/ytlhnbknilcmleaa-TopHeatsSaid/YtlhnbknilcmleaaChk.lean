/- Package heat's CheckInsert. -/
import Derived.Test.YtlhnbknilcmleaaRchk
import Derived.Test.YtlhnbknilcmleaaHotC
namespace Go.Proofs.Ytlhnbknilcmleaa
open Go.RowKit

theorem tailA_run (g o n c : Nat) (h : n + 1 ≤ c) (hn : n ≤ 10000) (w : World) : (Instr.slice 22 (.slice (some ⟨g, o, none⟩) (n + 1) c) (some (.int .i64 1)) none none).run Try.prog w = .ok (.slice (if c = 1 then some ⟨g, o, none⟩ else some ⟨g, o + 3, none⟩) n (c - 1)) w := by
  have q1 : (n : Int) + 1 ≤ (c : Int) := by omega
  by_cases hc : c = 1
  · subst hc
    obtain rfl : n = 0 := by omega
    go_simp
  · have q2 : ¬ (c : Int) = 1 := by omega
    go_simp
    intro h
    omega
theorem tailT_rd {w : World} {b o c : Nat} {x : T3} {l : List T3} (h : Rd w (some ⟨b, o, none⟩) (cellsT (x :: l))) (hc : l.length + 1 ≤ c) : Rd w (if c = 1 then some ⟨b, o, none⟩ else some ⟨b, o + 3, none⟩) (cellsT l) := by
  by_cases hce : c = 1
  · have : l = [] := List.length_eq_zero_iff.1 (by omega)
    subst this; exact Rd.nil _ _
  · rw [if_neg hce]
    have := h.dropped 1
    simpa using this
theorem drop_head {p : List T3} {k : Nat} (h : k < p.length) : p.drop k = p.getD k t0 :: p.drop (k + 1) := by rw [List.drop_eq_getElem_cons h]; simp [h]

set_option maxRecDepth 100000 in
set_option maxHeartbeats 4000000 in
theorem isInserted_c (A : Option Addr) (p : List T3) (c : Nat) (B0 : Option Addr) (v : List T3) (d0 : Nat) (w : World) (hlen : p.length ≤ 1000) (hcap : p.length ≤ c) (hvl : v.length ≤ 1000) (hr : Rd w A (cellsT p)) (hs : Rd w B0 (cellsT v)) :
    Calls Try.prog 68 #[.slice A p.length c, .slice B0 v.length d0] w fun e w' => e = .returned (.bool (decide (mF p v = some p.length))) ∧ Below w.heap.size w w' := by
  go_enter Try.func68, Try.ntmps68
  go_wp2_with (fail)
  go_loopg [0, 9] v.length (fun gk pv iv wr => ∃ (j k : Nat) (B : Option Addr) (d : Nat), Hid (j + gk = v.length) ∧ iv = .int .i64 (j : Int) ∧ pv = .slice B (p.length - k) d ∧ p.length - k ≤ d ∧ Hid (mF p (v.take j) = some k) ∧ Hid (k ≤ p.length) ∧ Rd w B (cellsT (p.drop k)) ∧ Below w.heap.size w wr)
  case atStart => exact ⟨0, 0, A, c, by simp [Hid], rfl, rfl, hcap, rfl, Nat.zero_le _, hr, Below.refl _ _⟩
  case round =>
    obtain ⟨j, k, B, d, HJ, rfl, rfl, hd, HM, HKL, hrp, hb⟩ := hrel
    have hss := hs.later hb
    rcases gk with _ | gi
    · obtain rfl : j = v.length := HJ.out
      have hmf := HM.out
      rw [List.take_length] at hmf
      have HE : Hid (decide (mF p v = some p.length) = (((p.length - k : Nat) : Int) == 0)) := by
        have hkl := HKL.out
        show _ = _
        rw [hmf]
        by_cases hk : k = p.length
        · subst hk; simp
        · rw [decide_eq_false (by intro e; injection e with e; exact hk e)]
          symm; rw [beq_eq_false_iff_ne]; omega
      clear hmf
      go_wp2_with (fail)
      go_ret
      exact ⟨by rw [HE.out]; rfl, hb⟩
    · have hjl : j < v.length := by have := HJ.out; omega
      have hjl' : (j : Int) < (v.length : Int) := by omega
      have HMN : Hid (mF p (v.take (j + 1)) = mStep p k (v.getD j t0)) := by show _ = _; rw [mF_succ hjl, HM.out]; rfl
      obtain ⟨b, o, rfl, _, c0, c1, c2⟩ := hss.tri hjl
      have HFAIL := Lib.hid (fun h => @mF_fail p v (j + 1) h)
      have HSTEP := Lib.hid (mStep_cases p k (v.getD j t0))
      generalize v.getD j t0 = x at *
      obtain ⟨x0, x1, x2⟩ := x
      simp only [] at c0 c1 c2
      have HC := fun w => Lib.hid (isCooling_c x0 x1 x2 w)
      have hba := bl_alloc hb (.cells #[.int .i64 x0, .int .i64 x1, .int .i64 x2] 61)
      have hbx : Bx (wr.alloc (.cells #[.int .i64 x0, .int .i64 x1, .int .i64 x2] 61)) wr.heap.size 61 #[.int .i64 x0, .int .i64 x1, .int .i64 x2] := Bx.new _ _ _
      rcases HSTEP.out with ⟨hk, he, hm⟩ | ⟨hk, he, hm⟩ | ⟨hk, hm⟩
      · have HX : Hid (mF p (v.take (j + 1)) = some (k + 1)) := HMN.out.trans hm
        have hdh := drop_head hk
        rw [← he] at hdh
        rw [hdh] at hrp
        obtain ⟨b2, o2, rfl, _, e0, e1, e2⟩ := (hrp.later hb).tri (k := 0) (by simp)
        rw [Nat.zero_mul, Nat.add_zero] at e0 e1 e2
        have e0' : wr.cell? ⟨b2, o2, none⟩ = some (.int .i64 x0) := e0
        have e1' : wr.cell? ⟨b2, o2 + 1, none⟩ = some (.int .i64 x1) := e1
        have e2' : wr.cell? ⟨b2, o2 + 2, none⟩ = some (.int .i64 x2) := e2
        obtain ⟨R, hR⟩ : ∃ R, R = p.length - (k + 1) := ⟨_, rfl⟩
        have hRl : (p.drop (k + 1)).length = R := by rw [List.length_drop, hR]
        have hRk : p.length - k = R + 1 := by omega
        have hd' : R + 1 ≤ d := by omega
        have hsl := fun w1 => tailA_run b2 o2 R d hd' (by omega) w1
        have hrd' := tailT_rd hrp (by rw [hRl]; exact hd')
        have HK := Lib.hid hk
        have HRH := Lib.hid hR
        have HD := Lib.hid hd'
        have hpos : (0 : Int) < ((R : Int) + 1) := by omega
        rw [hRk]
        clear he hm e0 e1 e2 hdh hrp hR hRl hRk hd hd' hk
        generalize (if d = 1 then (some ⟨b2, o2, none⟩ : Option Addr) else some ⟨b2, o2 + 3, none⟩) = B2 at *
        go_wp2_with (fail)
        go_quiet (fail)
        go_wp2_with (fail)
        go_roundg gi
        case rel => exact ⟨j + 1, k + 1, B2, d - 1, by have := HJ.out; show _ = _; omega, by go_num, by rw [← HRH.out], by rw [← HRH.out]; have := HD.out; omega, HX, HK.out, hrd', below_drewN hba _⟩
        case measure => omega
      · have HMS := Lib.hid hm
        have hdh := drop_head hk
        have hRk : p.length - k = (p.length - (k + 1)) + 1 := by omega
        have HREL : Hid (p.length - k ≤ d ∧ Rd w B (cellsT (p.drop k))) := ⟨hd, hrp⟩
        rw [hdh] at hrp
        obtain ⟨b2, o2, rfl, _, e0, e1, e2⟩ := (hrp.later hb).tri (k := 0) (by simp)
        rw [Nat.zero_mul, Nat.add_zero] at e0 e1 e2
        have hgd : (p.getD k t0 :: p.drop (k + 1)).getD 0 t0 = p.getD k t0 := rfl
        rw [hgd] at e0 e1 e2
        have HRK := Lib.hid hRk
        rw [hRk]
        generalize p.length - (k + 1) = R at *
        have hpos : (0 : Int) < ((R : Int) + 1) := by omega
        clear hm hdh hgd hrp hRk hd hk
        generalize p.getD k t0 = y at *
        obtain ⟨y0, y1, y2⟩ := y
        simp only [] at e0 e1 e2
        obtain ⟨B, hB⟩ : ∃ B : Option Addr, B = some ⟨b2, o2, none⟩ := ⟨_, rfl⟩
        have HBB := Lib.hid hB
        clear hB
        rcases three_cases x0 x1 x2 y0 y1 y2 with h0 | ⟨rfl, h0⟩ | ⟨rfl, rfl, h0⟩ | ⟨rfl, rfl, rfl⟩
        · clear he
          have h0' := Ne.symm h0
          by_cases h2 : x0 = 2
          · subst h2
            have HX : Hid (mF p (v.take (j + 1)) = some k) := by show _ = _; rw [HMN.out, HMS.out]; rfl
            go_wp2_with (fail)
            go_quiet (fail)
            generalize hwd : (wr.alloc _).drewN _ = wd
            have hbd : Below (wr.alloc (.cells #[.int .i64 2, .int .i64 x1, .int .i64 x2] 61)).heap.size (wr.alloc (.cells #[.int .i64 2, .int .i64 x1, .int .i64 x2] 61)) wd := by rw [← hwd]; exact below_drewN (Below.refl _ _) _
            obtain ⟨d0, d1, d2, _, _, _⟩ := (hbx.call hbd).three
            have hbw := bl_call hba hbd
            clear hwd
            go_wp2_with (go_at_call 76; refine (HC _).out.mono ?_; rintro e w2 ⟨rfl, hb2⟩)
            go_roundg gi
            case rel => exact ⟨j + 1, k, B, d, by have := HJ.out; show _ = _; omega, by go_num, by rw [HRK.out, HBB.out], HREL.out.1, HX, HKL, by rw [HBB.out]; exact HREL.out.2, bl_call hbw hb2⟩
            case measure => omega
          · have HX : Hid (mF p (v.take (j + 1)) = none) := by show _ = _; rw [HMN.out, HMS.out]; exact if_neg h2
            have q2 : (x0 == 2) = false := by simpa using h2
            have HE : Hid (decide (mF p v = some p.length) = false) := decide_eq_false (HFAIL.out HX.out)
            go_wp2_with (fail)
            go_quiet (fail)
            generalize hwd : (wr.alloc _).drewN _ = wd
            have hbd : Below (wr.alloc (.cells #[.int .i64 x0, .int .i64 x1, .int .i64 x2] 61)).heap.size (wr.alloc (.cells #[.int .i64 x0, .int .i64 x1, .int .i64 x2] 61)) wd := by rw [← hwd]; exact below_drewN (Below.refl _ _) _
            obtain ⟨d0, d1, d2, _, _, _⟩ := (hbx.call hbd).three
            have hbw := bl_call hba hbd
            clear hwd
            go_wp2_with (go_at_call 76; refine (HC _).out.mono ?_; rintro e w2 ⟨rfl, hb2⟩)
            go_ret
            exact ⟨by rw [HE.out]; rfl, bl_call hbw hb2⟩
        · clear he
          have h0' := Ne.symm h0
          by_cases h2 : x0 = 2
          · subst h2
            have HX : Hid (mF p (v.take (j + 1)) = some k) := by show _ = _; rw [HMN.out, HMS.out]; rfl
            go_wp2_with (fail)
            go_quiet (fail)
            generalize hwd : (wr.alloc _).drewN _ = wd
            have hbd : Below (wr.alloc (.cells #[.int .i64 2, .int .i64 x1, .int .i64 x2] 61)).heap.size (wr.alloc (.cells #[.int .i64 2, .int .i64 x1, .int .i64 x2] 61)) wd := by rw [← hwd]; exact below_drewN (Below.refl _ _) _
            obtain ⟨d0, d1, d2, _, _, _⟩ := (hbx.call hbd).three
            have hbw := bl_call hba hbd
            clear hwd
            go_wp2_with (go_at_call 76; refine (HC _).out.mono ?_; rintro e w2 ⟨rfl, hb2⟩)
            go_roundg gi
            case rel => exact ⟨j + 1, k, B, d, by have := HJ.out; show _ = _; omega, by go_num, by rw [HRK.out, HBB.out], HREL.out.1, HX, HKL, by rw [HBB.out]; exact HREL.out.2, bl_call hbw hb2⟩
            case measure => omega
          · have HX : Hid (mF p (v.take (j + 1)) = none) := by show _ = _; rw [HMN.out, HMS.out]; exact if_neg h2
            have q2 : (x0 == 2) = false := by simpa using h2
            have HE : Hid (decide (mF p v = some p.length) = false) := decide_eq_false (HFAIL.out HX.out)
            go_wp2_with (fail)
            go_quiet (fail)
            generalize hwd : (wr.alloc _).drewN _ = wd
            have hbd : Below (wr.alloc (.cells #[.int .i64 x0, .int .i64 x1, .int .i64 x2] 61)).heap.size (wr.alloc (.cells #[.int .i64 x0, .int .i64 x1, .int .i64 x2] 61)) wd := by rw [← hwd]; exact below_drewN (Below.refl _ _) _
            obtain ⟨d0, d1, d2, _, _, _⟩ := (hbx.call hbd).three
            have hbw := bl_call hba hbd
            clear hwd
            go_wp2_with (go_at_call 76; refine (HC _).out.mono ?_; rintro e w2 ⟨rfl, hb2⟩)
            go_ret
            exact ⟨by rw [HE.out]; rfl, bl_call hbw hb2⟩
        · clear he
          have h0' := Ne.symm h0
          by_cases h2 : x0 = 2
          · subst h2
            have HX : Hid (mF p (v.take (j + 1)) = some k) := by show _ = _; rw [HMN.out, HMS.out]; rfl
            go_wp2_with (fail)
            go_quiet (fail)
            generalize hwd : (wr.alloc _).drewN _ = wd
            have hbd : Below (wr.alloc (.cells #[.int .i64 2, .int .i64 x1, .int .i64 x2] 61)).heap.size (wr.alloc (.cells #[.int .i64 2, .int .i64 x1, .int .i64 x2] 61)) wd := by rw [← hwd]; exact below_drewN (Below.refl _ _) _
            obtain ⟨d0, d1, d2, _, _, _⟩ := (hbx.call hbd).three
            have hbw := bl_call hba hbd
            clear hwd
            go_wp2_with (go_at_call 76; refine (HC _).out.mono ?_; rintro e w2 ⟨rfl, hb2⟩)
            go_roundg gi
            case rel => exact ⟨j + 1, k, B, d, by have := HJ.out; show _ = _; omega, by go_num, by rw [HRK.out, HBB.out], HREL.out.1, HX, HKL, by rw [HBB.out]; exact HREL.out.2, bl_call hbw hb2⟩
            case measure => omega
          · have HX : Hid (mF p (v.take (j + 1)) = none) := by show _ = _; rw [HMN.out, HMS.out]; exact if_neg h2
            have q2 : (x0 == 2) = false := by simpa using h2
            have HE : Hid (decide (mF p v = some p.length) = false) := decide_eq_false (HFAIL.out HX.out)
            go_wp2_with (fail)
            go_quiet (fail)
            generalize hwd : (wr.alloc _).drewN _ = wd
            have hbd : Below (wr.alloc (.cells #[.int .i64 x0, .int .i64 x1, .int .i64 x2] 61)).heap.size (wr.alloc (.cells #[.int .i64 x0, .int .i64 x1, .int .i64 x2] 61)) wd := by rw [← hwd]; exact below_drewN (Below.refl _ _) _
            obtain ⟨d0, d1, d2, _, _, _⟩ := (hbx.call hbd).three
            have hbw := bl_call hba hbd
            clear hwd
            go_wp2_with (go_at_call 76; refine (HC _).out.mono ?_; rintro e w2 ⟨rfl, hb2⟩)
            go_ret
            exact ⟨by rw [HE.out]; rfl, bl_call hbw hb2⟩
        · exact absurd rfl he
      · have HMS := Lib.hid hm
        have hRk : p.length - k = 0 := by omega
        have HREL : Hid (p.length - k ≤ d ∧ Rd w B (cellsT (p.drop k))) := ⟨hd, hrp⟩
        have HRK := Lib.hid hRk
        rw [hRk]
        clear hm hRk hd hrp hk
        by_cases h2 : x0 = 2
        · subst h2
          have HX : Hid (mF p (v.take (j + 1)) = some k) := by show _ = _; rw [HMN.out, HMS.out]; rfl
          go_wp2_with (fail)
          go_quiet (fail)
          generalize hwd : (wr.alloc _).drewN _ = wd
          have hbd : Below (wr.alloc (.cells #[.int .i64 2, .int .i64 x1, .int .i64 x2] 61)).heap.size (wr.alloc (.cells #[.int .i64 2, .int .i64 x1, .int .i64 x2] 61)) wd := by rw [← hwd]; exact below_drewN (Below.refl _ _) _
          obtain ⟨d0, d1, d2, _, _, _⟩ := (hbx.call hbd).three
          have hbw := bl_call hba hbd
          clear hwd
          go_wp2_with (go_at_call 76; refine (HC _).out.mono ?_; rintro e w2 ⟨rfl, hb2⟩)
          go_roundg gi
          case rel => exact ⟨j + 1, k, B, d, by have := HJ.out; show _ = _; omega, by go_num, by rw [HRK.out], HREL.out.1, HX, HKL, HREL.out.2, bl_call hbw hb2⟩
          case measure => omega
        · have HX : Hid (mF p (v.take (j + 1)) = none) := by show _ = _; rw [HMN.out, HMS.out]; exact if_neg h2
          have q2 : (x0 == 2) = false := by simpa using h2
          have HE : Hid (decide (mF p v = some p.length) = false) := decide_eq_false (HFAIL.out HX.out)
          go_wp2_with (fail)
          go_quiet (fail)
          generalize hwd : (wr.alloc _).drewN _ = wd
          have hbd : Below (wr.alloc (.cells #[.int .i64 x0, .int .i64 x1, .int .i64 x2] 61)).heap.size (wr.alloc (.cells #[.int .i64 x0, .int .i64 x1, .int .i64 x2] 61)) wd := by rw [← hwd]; exact below_drewN (Below.refl _ _) _
          obtain ⟨d0, d1, d2, _, _, _⟩ := (hbx.call hbd).three
          have hbw := bl_call hba hbd
          clear hwd
          go_wp2_with (go_at_call 76; refine (HC _).out.mono ?_; rintro e w2 ⟨rfl, hb2⟩)
          go_ret
          exact ⟨by rw [HE.out]; rfl, bl_call hbw hb2⟩

set_option maxRecDepth 100000 in
set_option maxHeartbeats 4000000 in
theorem CheckInsert_c (n : Int) (A : Option Addr) (p : List T3) (c : Nat) (B : Option Addr) (v : List T3) (d : Nat) (lim : Int) (w : World) (hlen : p.length ≤ 1000) (hcap : p.length ≤ c) (hvl : v.length ≤ 1000) (hr : Rd w A (cellsT p)) (hs : Rd w B (cellsT v)) :
    Calls Try.prog 38 #[.int .i64 n, .slice A p.length c, .slice B v.length d, .int .i64 lim] w fun e w' => e = .returned (.tuple #[.int .i64 (insV n p v lim), .int .i64 (insE n p v lim)]) ∧ Below w.heap.size w w' := by
  have HV := Lib.hid (validateBy_c n A p c lim w hlen hr)
  have HA := fun w1 h => Lib.hid (validateActs_c n B v d w1 hvl h)
  have HI := fun w1 h h2 => Lib.hid (isInserted_c A p c B v d w1 hlen hcap hvl h h2)
  rcases insE_cases n p v lim with ⟨h1, h2, h3⟩ | ⟨h1, h2, h3, h4⟩ | ⟨h1, h2, h3, h4, h5⟩ | ⟨h1, h2, h3, h4, h5, h6⟩
  · have hv' : (limE n p lim != 0) = true := by simpa using h1
    rw [h2, h3]
    clear h2 h3
    generalize limE n p lim = ev at *
    go_enter Try.func38, Try.ntmps38
    go_wp2_with (go_at_call 61; refine HV.out.mono ?_; rintro e w1 ⟨rfl, hb1⟩)
    go_ret2
    exact ⟨rfl, hb1⟩
  · have h2' : (40 : Int) < (v.length : Int) := by omega
    rw [h1] at HV
    rw [h3, h4]
    clear h1 h3 h4
    go_enter Try.func38, Try.ntmps38
    go_wp2_with (go_at_call 61; refine HV.out.mono ?_; rintro e w1 ⟨rfl, hb1⟩)
    go_ret2
    exact ⟨rfl, hb1⟩
  · have h2' : ¬ (40 : Int) < (v.length : Int) := by omega
    have he : actsE n v = 1 := by rw [actsE, h3]; rfl
    rw [he] at HA
    rw [h1] at HV
    rw [h4, h5]
    clear h1 h3 h4 h5 he
    go_enter Try.func38, Try.ntmps38
    go_wp2_with (first | (go_at_call 61; refine HV.out.mono ?_; rintro e w1 ⟨rfl, hb1⟩) | (go_at_call 58; refine (HA _ (hs.later hb1)).out.mono ?_; rintro e w2 ⟨rfl, hb2⟩))
    go_ret2
    exact ⟨rfl, bl_call hb1 hb2⟩
  · have h2' : ¬ (40 : Int) < (v.length : Int) := by omega
    obtain ⟨hval, hl0, _⟩ := limE_zero.1 h1
    have hn := (validE_zero.1 hval).1
    have h20 := (validE_zero.1 hval).2.1
    have hav := all_acts hn.2 h3
    have he : actsE n v = 0 := actsE_zero.2 h3
    have HH := fun w1 h => Lib.hid (hotOf_c B v d lim w1 hvl hav hl0 h)
    rw [he] at HA
    rw [h1] at HV
    by_cases hm : mF p v = some p.length
    · rw [decide_eq_true hm] at HI
      have hwr : wrap64 ((v.length : Int) - (p.length : Int)) = (v.length : Int) - p.length := IntWalk.wrap64_in _ (by omega)
      cases hh : hotL lim v with
      | nil =>
        obtain ⟨e1, e2⟩ := h6 hm hh
        rw [hh] at HH
        rw [e1, e2]
        clear h1 h3 h4 h5 h6 hn he e1 e2 hm hh hval
        go_enter Try.func38, Try.ntmps38
        go_wp2_with (first | (go_at_call 61; refine HV.out.mono ?_; rintro e w1 ⟨rfl, hb1⟩) | (go_at_call 58; refine (HA _ (hs.later hb1)).out.mono ?_; rintro e w2 ⟨rfl, hb2⟩; have hb12 := bl_call hb1 hb2) | (go_at_call 68; refine (HI _ (hr.later hb12) (hs.later hb12)).out.mono ?_; rintro e w3 ⟨rfl, hb3⟩; have hb13 := bl_call hb12 hb3) | (go_at_call 62; refine (HH _ (hs.later hb13)).out.mono ?_; rintro e w4 ⟨A4, c4, rfl, ho4, hb4⟩))
        go_ret2
        exact ⟨rfl, bl_call hb13 hb4⟩
      | cons x t =>
        obtain ⟨e1, e2⟩ := h5 hm (by rw [hh]; simp)
        have hpos : (0 : Int) < ((t.length : Int) + 1) := by omega
        rw [hh] at HH
        rw [e1, e2]
        clear h1 h3 h4 h5 h6 hn he e1 e2 hm hh hval
        go_enter Try.func38, Try.ntmps38
        go_wp2_with (first | (go_at_call 61; refine HV.out.mono ?_; rintro e w1 ⟨rfl, hb1⟩) | (go_at_call 58; refine (HA _ (hs.later hb1)).out.mono ?_; rintro e w2 ⟨rfl, hb2⟩; have hb12 := bl_call hb1 hb2) | (go_at_call 68; refine (HI _ (hr.later hb12) (hs.later hb12)).out.mono ?_; rintro e w3 ⟨rfl, hb3⟩; have hb13 := bl_call hb12 hb3) | (go_at_call 62; refine (HH _ (hs.later hb13)).out.mono ?_; rintro e w4 ⟨A4, c4, rfl, ho4, hb4⟩))
        go_ret2
        exact ⟨rfl, bl_call hb13 hb4⟩
    · obtain ⟨e1, e2⟩ := h4 hm
      rw [decide_eq_false hm] at HI
      rw [e1, e2]
      clear h1 h3 h4 h5 h6 hn he e1 e2 hm hval
      go_enter Try.func38, Try.ntmps38
      go_wp2_with (first | (go_at_call 61; refine HV.out.mono ?_; rintro e w1 ⟨rfl, hb1⟩) | (go_at_call 58; refine (HA _ (hs.later hb1)).out.mono ?_; rintro e w2 ⟨rfl, hb2⟩; have hb12 := bl_call hb1 hb2) | (go_at_call 68; refine (HI _ (hr.later hb12) (hs.later hb12)).out.mono ?_; rintro e w3 ⟨rfl, hb3⟩; have hb13 := bl_call hb12 hb3))
      go_ret2
      exact ⟨rfl, hb13⟩
end Go.Proofs.Ytlhnbknilcmleaa
