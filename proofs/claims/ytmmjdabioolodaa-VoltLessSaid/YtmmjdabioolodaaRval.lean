/- Which gains, voltages, wishes and rows are right: the specification's contracts. -/
import Derived.Test.YtmmjdabioolodaaVal
namespace Go.Proofs.Ytmmjdabioolodaa
open Go.RowKit

theorem within_c (n lo hi : Int) (w : World) : Calls Try.prog 61 #[.int .i64 n, .int .i64 lo, .int .i64 hi] w fun e w' => e = .returned (.bool (inB n lo hi)) ∧ w = w' := by
  by_cases h1 : lo ≤ n
  · by_cases h2 : n ≤ hi
    all_goals
      go_enter Try.func61, Try.ntmps61
      go_wp2
      go_ret
      exact ⟨ret_b (by simp [inB]; omega), rfl⟩
  · go_enter Try.func61, Try.ntmps61
    go_wp2
    go_ret
    exact ⟨ret_b (by simp [inB]; omega), rfl⟩
set_option maxHeartbeats 1000000 in
theorem rall_c (A : Option Addr) (l : List Int) (cap n : Nat) (m : Int) (w : World) (hlen : l.length ≤ 1000) (hm : 0 ≤ m ∧ m ≤ 1000) (hr : Rd w A (ints l)) :
    Calls Try.prog 62 #[.slice A l.length cap, .int .i64 n, .int .i64 m] w fun e w' => e = .returned (.bool (okN l n m)) ∧ Below w.heap.size w w' := by
  by_cases hl : l.length = n
  · subst hl
    rw [okN_len rfl]
    have hne : ((l.length : Int) != (l.length : Int)) = false := by simp
    have hmw : wrap64 (-m) = -m := IntWalk.wrap64_in _ ⟨by omega, by omega⟩
    have HS := Lib.hid (fun k => @num_step l m k)
    have HW := fun x w => Lib.hid (within_c x (-m) m w)
    generalize hres : allTo (fun i => inB (l.getD i 0) (-m) m) l.length = res
    have HE := Lib.hid hres
    clear hres
    go_enter Try.func62, Try.ntmps62
    go_wp2_with (fail)
    go_loopg [7] l.length (fun gk iv wr => ∃ k : Nat, Hid (k + gk = l.length) ∧ iv = .int .i64 (k : Int) ∧ Hid (allTo (fun i => inB (l.getD i 0) (-m) m) k = true) ∧ Below w.heap.size w wr)
    case atStart => exact ⟨0, by simp [Hid], rfl, rfl, Below.refl _ _⟩
    case round =>
      obtain ⟨k, HK, rfl, hall, hb⟩ := hrel
      rcases gk with _ | gi
      · obtain rfl : k = l.length := HK.out
        go_wp2_with (fail)
        go_ret
        exact ⟨ret_b (by rw [← HE.out]; exact hall.out), hb⟩
      · have hlt : k < l.length := by have := HK.out; omega
        have hlt' : (k : Int) < (l.length : Int) := by omega
        obtain ⟨H1, H2⟩ := HS.out k hlt hall.out
        obtain ⟨b, o, rfl, _, hc⟩ := (hr.later hb).one hlt
        rw [← inB_z] at H2
        rw [← inB_z, Bool.not_eq_true] at H1
        replace H1 := Lib.hid H1
        replace H2 := Lib.hid H2
        have HWx := HW (l.getD k 0)
        generalize l.getD k 0 = x at hc H1 H2 HWx
        generalize inB x (-m) m = v at H1 H2 HWx
        cases v with
        | true =>
          go_wp2_with (fail)
          refine (HWx _).out.mono ?_
          rintro e w1 ⟨rfl, rfl⟩
          go_wp2_with (fail)
          go_roundg gi
          case rel => exact ⟨k + 1, by have := HK.out; show _ = _; omega, by go_num, H2.out trivial, hb⟩
          case measure => omega
        | false =>
          go_wp2_with (fail)
          refine (HWx _).out.mono ?_
          rintro e w1 ⟨rfl, rfl⟩
          go_wp2_with (fail)
          go_ret
          exact ⟨ret_b (by rw [← HE.out]; exact H1.out trivial), hb⟩
  · rw [okN_no hl]
    have hne : ((l.length : Int) != (n : Int)) = true := by simp; omega
    go_enter Try.func62, Try.ntmps62
    go_wp2_with (fail)
    go_ret
    exact ⟨rfl, Below.refl _ _⟩
set_option maxHeartbeats 2000000 in
theorem rValidate_c (A : Option Addr) (R : Rows) (g : List (List Int)) (cap : Nat) (w : World) (hl : Brief g) (hr : RT w A R g) :
    Calls Try.prog 22 #[.slice A g.length cap] w fun e w' => e = .returned (.int .i64 (errB (okG g))) ∧ Below w.heap.size w w' := by
  obtain ⟨hl1, hl2⟩ := hl
  have HW := fun n w => Lib.hid (within_c n 1 3 w)
  by_cases hI : inB (g.length : Int) 1 3 = true
  · have hI' := inB_z.1 hI
    have hpos : (0 : Int) < (g.length : Int) := by omega
    have hposn : 0 < g.length := by omega
    obtain ⟨b, o, rfl, hbl, HC⟩ := hr.all_ hposn
    replace HC := Lib.hid HC
    have HW1 := HW (g.length : Int)
    have HW2 := HW (wires g : Int)
    rw [hI] at HW1
    have hc := HC.out w (Below.refl _ _) 0 hposn
    rw [Nat.add_zero] at hc
    by_cases hJ : inB (wires g : Int) 1 3 = true
    · rw [hJ] at HW2
      have HE : Hid (∀ b, eachN g (wires g) 9 g.length = b → errB (okG g) = errB b) := fun b h => by rw [okG_each hI hJ, h]
      have HN : Hid (∀ k, k < g.length → okN (g.getD k []) (wires g) 9 = false → eachN g (wires g) 9 g.length = false) := fun k hk h => allTo_no hk h
      have HA := fun k (hk : k < g.length) w1 (hb : Below w.heap.size w w1) => Lib.hid (rall_c (R k).1 (g.getD k []) (R k).2 (wires g) 9 w1 (hl2 k hk) (by decide) ((hr.row k hk).later hb))
      generalize errB (okG g) = res at HE
      clear hI hJ hI' HW
      rw [show (g.getD 0 []).length = wires g from rfl] at hc
      have HCC : Hid (∀ w1, Below w.heap.size w w1 → w1.cell? ⟨b, o, none⟩ = some (.slice (R 0).1 (wires g) (R 0).2)) := fun w1 hw => by have := HC.out w1 hw 0 hposn; rwa [Nat.add_zero] at this
      have HD : Hid (eachN g (wires g) 9 0 = true) := rfl
      have HSS : Hid (∀ k, eachN g (wires g) 9 k = true → okN (g.getD k []) (wires g) 9 = true → eachN g (wires g) 9 (k + 1) = true) := fun k h1 h2 => by unfold eachN at h1 ⊢; rw [allTo, h1, h2]; rfl
      generalize wires g = n at *
      go_enter Try.func22, Try.ntmps22
      go_wp2_with (fail)
      refine (HW1 _).out.mono ?_
      rintro e w1 ⟨rfl, rfl⟩
      go_wp2_with (fail)
      refine (HW2 _).out.mono ?_
      rintro e w1 ⟨rfl, rfl⟩
      go_wp2_with (fail)
      go_loopg [3] g.length (fun gk iv wr => ∃ k : Nat, Hid (k + gk = g.length) ∧ iv = .int .i64 (k : Int) ∧ Hid (eachN g n 9 k = true) ∧ Below w.heap.size w wr)
      case atStart => exact ⟨0, by simp [Hid], rfl, HD, Below.refl _ _⟩
      case round =>
        clear hc
        obtain ⟨k, HK, rfl, hall, hb⟩ := hrel
        rcases gk with _ | gi
        · obtain rfl : k = g.length := HK.out
          go_wp2_with (fail)
          go_ret
          exact ⟨ret_i (by rw [HE.out _ hall.out]; rfl), hb⟩
        · have hlt : k < g.length := by have := HK.out; omega
          have hlt' : (k : Int) < (g.length : Int) := by omega
          have hck := HC.out wr hb k hlt
          have hc0 := HCC.out wr hb
          have HAk := HA k hlt
          have HNk := Lib.hid (HN.out k hlt)
          have HS := Lib.hid (HSS.out k hall.out)
          have F1 : Hid (∀ w1, Below w.heap.size w w1 → w1.cell? ⟨b, o + k, none⟩ = some (.slice (R k).1 (g.getD k []).length (R k).2)) := fun w1 hw => HC.out w1 hw k hlt
          generalize okN (g.getD k []) n 9 = v at HAk HNk HS
          generalize g.getD k [] = l at hck HAk F1
          have hdr : Below w.heap.size w wr.drew := hb.drew
          cases v with
          | true =>
            go_wp2_with (fail)
            refine wp_region_low (hdr) (by kernel_rfl) (by kernel_rfl) ?_
            repeat (first
              | go_big_quiet_skip
              | (go_big_quiet_want
                 apply Exists.intro
                 refine And.intro (fun W hW => ?_) ?_
                 · (have z1 := F1.out W hW; have z2 := HCC.out W hW)
                   go_simp
                   first
                     | exact rfl
                     | (refine (HAk W hW).out.mono ?_; rintro e w1 ⟨rfl, hb1⟩; exact ⟨rfl, hW.trans (hb1.mono hW.size)⟩)
                 try go_simp
                 go_big_quiet_on))
            refine wpQuiet_nil ?_
            intro w9 hb9
            go_wp2_with (fail)
            go_roundg gi
            case rel => exact ⟨k + 1, by have := HK.out; show _ = _; omega, by go_num, HS.out trivial, hb9⟩
            case measure => omega
          | false =>
            go_wp2_with (fail)
            refine wp_region_low (hdr) (by kernel_rfl) (by kernel_rfl) ?_
            repeat (first
              | go_big_quiet_skip
              | (go_big_quiet_want
                 apply Exists.intro
                 refine And.intro (fun W hW => ?_) ?_
                 · (have z1 := F1.out W hW; have z2 := HCC.out W hW)
                   go_simp
                   first
                     | exact rfl
                     | (refine (HAk W hW).out.mono ?_; rintro e w1 ⟨rfl, hb1⟩; exact ⟨rfl, hW.trans (hb1.mono hW.size)⟩)
                 try go_simp
                 go_big_quiet_on))
            refine wpQuiet_nil ?_
            intro w9 hb9
            go_wp2_with (fail)
            go_ret
            exact ⟨ret_i (by rw [HE.out _ (HNk.out trivial)]; rfl), hb9⟩
    · have hJ' : inB (wires g : Int) 1 3 = false := by simpa using hJ
      rw [hJ'] at HW2
      rw [okG_wires hJ']
      rw [show (g.getD 0 []).length = wires g from rfl] at hc
      clear hI hJ hI' HW hJ'
      generalize wires g = n at *
      go_enter Try.func22, Try.ntmps22
      go_wp2_with (fail)
      refine (HW1 _).out.mono ?_
      rintro e w1 ⟨rfl, rfl⟩
      go_wp2_with (fail)
      refine (HW2 _).out.mono ?_
      rintro e w1 ⟨rfl, rfl⟩
      go_wp2_with (fail)
      go_ret
      exact ⟨rfl, Below.refl _ _⟩
  · have hI' : inB (g.length : Int) 1 3 = false := by simpa using hI
    rw [okG_pts hI']
    have HW1 := HW (g.length : Int)
    rw [hI'] at HW1
    clear hI hI' HW
    go_enter Try.func22, Try.ntmps22
    go_wp2_with (fail)
    refine (HW1 _).out.mono ?_
    rintro e w1 ⟨rfl, rfl⟩
    go_wp2_with (fail)
    go_ret
    exact ⟨rfl, Below.refl _ _⟩
theorem isVolts_c (A B : Option Addr) (R : Rows) (g : List (List Int)) (v : List Int) (cap cap' : Nat) (w : World) (hp : 0 < g.length) (hl : v.length ≤ 1000) (hr : RT w A R g) (hs : Rd w B (ints v)) :
    Calls Try.prog 57 #[.slice A g.length cap, .slice B v.length cap'] w fun e w' => e = .returned (.bool (okL g v)) ∧ Below w.heap.size w w' := by
  have hp' : (0 : Int) < (g.length : Int) := by omega
  obtain ⟨b, o, rfl, _, hc⟩ := hr.at_ hp
  rw [Nat.add_zero] at hc
  have HA := Lib.hid (rall_c B v cap' (wires g) 3 w hl (by decide) hs)
  unfold okL
  generalize okN v (wires g) 3 = x at HA
  rw [show (g.getD 0 []).length = wires g from rfl] at hc
  generalize wires g = n at *
  go_enter Try.func57, Try.ntmps57
  go_wp2_with (fail)
  refine HA.out.mono ?_
  rintro e w1 ⟨rfl, hb1⟩
  go_wp2_with (fail)
  go_ret
  exact ⟨rfl, hb1⟩
theorem isWish_c (A B : Option Addr) (g : List (List Int)) (v : List Int) (cap cap' : Nat) (w : World) (hl : v.length ≤ 1000) (hs : Rd w B (ints v)) :
    Calls Try.prog 90 #[.slice A g.length cap, .slice B v.length cap'] w fun e w' => e = .returned (.bool (okW g v)) ∧ Below w.heap.size w w' := by
  have HA := Lib.hid (rall_c B v cap' g.length 1000 w hl (by decide) hs)
  unfold okW
  generalize okN v g.length 1000 = x at HA
  go_enter Try.func90, Try.ntmps90
  go_wp2_with (fail)
  refine HA.out.mono ?_
  rintro e w1 ⟨rfl, hb1⟩
  go_wp2_with (fail)
  go_ret
  exact ⟨rfl, hb1⟩
theorem rWished_c (A B : Option Addr) (R : Rows) (g : List (List Int)) (l : List Int) (cap cap' : Nat) (w : World) (hl : Brief g) (hl' : l.length ≤ 1000) (hr : RT w A R g) (hs : Rd w B (ints l)) :
    Calls Try.prog 67 #[.slice A g.length cap, .slice B l.length cap'] w fun e w' => e = .returned (.int .i64 (errB (okG g && okW g l))) ∧ Below w.heap.size w w' := by
  have HV := Lib.hid (rValidate_c A R g cap w hl hr)
  have HE := fun w1 (hb : Below w.heap.size w w1) => Lib.hid (isWish_c A B g l cap cap' w1 hl' (hs.later hb))
  generalize okW g l = x at HE
  generalize okG g = v at HV
  cases v with
  | false =>
    rw [err_and_f]
    go_enter Try.func67, Try.ntmps67
    go_wp2_with (fail)
    refine HV.out.mono ?_
    rintro e w1 ⟨rfl, hb1⟩
    rw [errB_f]
    go_wp2_with (fail)
    go_ret
    exact ⟨rfl, hb1⟩
  | true =>
    rw [err_and_t]
    cases x with
    | true =>
      go_enter Try.func67, Try.ntmps67
      go_wp2_with (fail)
      refine HV.out.mono ?_
      rintro e w1 ⟨rfl, hb1⟩
      rw [errB_t]
      go_wp2_with (fail)
      refine (HE _ hb1).out.mono ?_
      rintro e w2 ⟨rfl, hb2⟩
      go_wp2_with (fail)
      go_ret
      exact ⟨rfl, bl_call hb1 hb2⟩
    | false =>
      go_enter Try.func67, Try.ntmps67
      go_wp2_with (fail)
      refine HV.out.mono ?_
      rintro e w1 ⟨rfl, hb1⟩
      rw [errB_t]
      go_wp2_with (fail)
      refine (HE _ hb1).out.mono ?_
      rintro e w2 ⟨rfl, hb2⟩
      go_wp2_with (fail)
      go_ret
      exact ⟨rfl, bl_call hb1 hb2⟩
set_option maxHeartbeats 2000000 in
theorem rRowed_c (A B : Option Addr) (R S : Rows) (g row : List (List Int)) (cap cap' : Nat) (w : World) (hl : Brief g) (hl' : Brief row) (hr : RT w A R g) (hs : RT w B S row) :
    Calls Try.prog 87 #[.slice A g.length cap, .slice B row.length cap'] w fun e w' => e = .returned (.int .i64 (errB (okG g && okR g row))) ∧ Below w.heap.size w w' := by
  have HV := Lib.hid (rValidate_c A R g cap w hl hr)
  have HW := fun w => Lib.hid (within_c (row.length : Int) 1 5 w)
  have HRL := Lib.hid (@okR_len g row)
  have HRE : Hid (inB (row.length : Int) 1 5 = true → ∀ b, eachN row g.length 1000 row.length = b → errB (okR g row) = errB b) := fun h b hb => by rw [okR_each h, hb]
  generalize okR g row = okr at HRL HRE
  generalize okG g = v at HV
  cases v with
  | false =>
    rw [err_and_f]
    go_enter Try.func87, Try.ntmps87
    go_wp2_with (fail)
    refine HV.out.mono ?_
    rintro e w1 ⟨rfl, hb1⟩
    rw [errB_f]
    go_wp2_with (fail)
    go_ret
    exact ⟨rfl, hb1⟩
  | true =>
    rw [err_and_t]
    generalize inB (row.length : Int) 1 5 = u at HW HRL HRE
    cases u with
    | false =>
      have HX := Lib.hid (HRL.out rfl)
      clear HRL HRE
      go_enter Try.func87, Try.ntmps87
      go_wp2_with (fail)
      refine HV.out.mono ?_
      rintro e w1 ⟨rfl, hb1⟩
      rw [errB_t]
      go_wp2_with (fail)
      refine (HW _).out.mono ?_
      rintro e w2 ⟨rfl, rfl⟩
      go_wp2_with (fail)
      go_ret
      exact ⟨ret_i (by rw [HX.out]; rfl), hb1⟩
    | true =>
      have HX := Lib.hid (HRE.out rfl)
      clear HRL HRE
      have HN : Hid (∀ k, k < row.length → okW g (row.getD k []) = false → eachN row g.length 1000 row.length = false) := fun k hk h => allTo_no hk h
      have HSS : Hid (∀ k, eachN row g.length 1000 k = true → okW g (row.getD k []) = true → eachN row g.length 1000 (k + 1) = true) := fun k h1 h2 => by unfold eachN okW at *; rw [allTo, h1, h2]; rfl
      have HA := fun k (hk : k < row.length) w1 (hb : Below w.heap.size w w1) => Lib.hid (isWish_c A (S k).1 g (row.getD k []) cap (S k).2 w1 (hl'.2 k hk) ((hs.row k hk).later hb))
      generalize errB okr = res at HX
      have hl1 := hl'.1
      go_enter Try.func87, Try.ntmps87
      go_wp2_with (fail)
      refine HV.out.mono ?_
      rintro e w1 ⟨rfl, hb1⟩
      rw [errB_t]
      go_wp2_with (fail)
      refine (HW _).out.mono ?_
      rintro e w2 ⟨rfl, rfl⟩
      go_wp2_with (fail)
      go_loopg [6] row.length (fun gk iv wr => ∃ k : Nat, Hid (k + gk = row.length) ∧ iv = .int .i64 (k : Int) ∧ Hid (eachN row g.length 1000 k = true) ∧ Below w.heap.size w wr)
      case atStart => exact ⟨0, by simp [Hid], rfl, rfl, hb1⟩
      case round =>
        obtain ⟨k, HK, rfl, hall, hb⟩ := hrel
        rcases gk with _ | gi
        · obtain rfl : k = row.length := HK.out
          go_wp2_with (fail)
          go_ret
          exact ⟨ret_i (by rw [HX.out _ hall.out]; rfl), hb⟩
        · have hlt : k < row.length := by have := HK.out; omega
          have hlt' : (k : Int) < (row.length : Int) := by omega
          obtain ⟨b, o, rfl, _, hc⟩ := (hs.later hb).at_ hlt
          have HAk := HA k hlt wr hb
          have HNk := Lib.hid (HN.out k hlt)
          have HS := Lib.hid (HSS.out k hall.out)
          generalize okW g (row.getD k []) = v at HAk HNk HS
          generalize row.getD k [] = l at hc HAk
          cases v with
          | true =>
            go_wp2_with (fail)
            refine HAk.out.mono ?_
            rintro e w3 ⟨rfl, hb3⟩
            go_wp2_with (fail)
            go_roundg gi
            case rel => exact ⟨k + 1, by have := HK.out; show _ = _; omega, by go_num, HS.out trivial, bl_call hb hb3⟩
            case measure => omega
          | false =>
            go_wp2_with (fail)
            refine HAk.out.mono ?_
            rintro e w3 ⟨rfl, hb3⟩
            go_wp2_with (fail)
            go_ret
            exact ⟨ret_i (by rw [HX.out _ (HNk.out trivial)]; rfl), bl_call hb hb3⟩
set_option maxHeartbeats 1000000 in
theorem rpair_c (A B : Option Addr) (a b : List Int) (cap cap' : Nat) (w : World) (hl : a.length ≤ 1000) (hl' : b.length ≤ 1000) (hr : Rd w A (ints a)) (hs : Rd w B (ints b)) :
    Calls Try.prog 79 #[.slice A a.length cap, .slice B b.length cap'] w fun e w' => e = .returned (.int .i64 (errB (okTwo a b))) ∧ Below w.heap.size w w' := by
  have HW := fun w => Lib.hid (within_c (a.length : Int) 1 3 w)
  have HA := fun w1 (hb : Below w.heap.size w w1) => Lib.hid (rall_c A a cap a.length 3 w1 hl (by decide) (hr.later hb))
  have HB := fun w1 (hb : Below w.heap.size w w1) => Lib.hid (rall_c B b cap' a.length 3 w1 hl' (by decide) (hs.later hb))
  have hb0 := Below.refl w.heap.size w
  unfold okTwo
  generalize inB (a.length : Int) 1 3 = u at HW
  generalize okN a a.length 3 = x at HA
  generalize okN b a.length 3 = y at HB
  cases u with
  | false =>
    go_enter Try.func79, Try.ntmps79
    go_wp2_with (fail)
    refine (HW _).out.mono ?_
    rintro e w1 ⟨rfl, rfl⟩
    go_wp2_with (fail)
    go_ret
    exact ⟨rfl, hb0⟩
  | true =>
    cases x with
    | false =>
      go_enter Try.func79, Try.ntmps79
      go_wp2_with (fail)
      refine (HW _).out.mono ?_
      rintro e w1 ⟨rfl, rfl⟩
      go_wp2_with (fail)
      refine (HA _ hb0).out.mono ?_
      rintro e w2 ⟨rfl, hb2⟩
      go_wp2_with (fail)
      go_ret
      exact ⟨rfl, hb2⟩
    | true =>
      go_enter Try.func79, Try.ntmps79
      go_wp2_with (fail)
      refine (HW _).out.mono ?_
      rintro e w1 ⟨rfl, rfl⟩
      go_wp2_with (fail)
      refine (HA _ hb0).out.mono ?_
      rintro e w2 ⟨rfl, hb2⟩
      go_wp2_with (fail)
      refine (HB _ hb2).out.mono ?_
      rintro e w3 ⟨rfl, hb3⟩
      cases y with
      | true =>
        go_wp2_with (fail)
        go_ret
        exact ⟨rfl, bl_call hb2 hb3⟩
      | false =>
        go_wp2_with (fail)
        go_ret
        exact ⟨rfl, bl_call hb2 hb3⟩
def okSlew (a b : List Int) (s : Int) : Bool := okTwo a b && inB s 1 6
set_option maxHeartbeats 1000000 in
theorem rslewed_c (A B : Option Addr) (a b : List Int) (cap cap' : Nat) (s : Int) (w : World) (hl : a.length ≤ 1000) (hl' : b.length ≤ 1000) (hr : Rd w A (ints a)) (hs : Rd w B (ints b)) :
    Calls Try.prog 84 #[.slice A a.length cap, .slice B b.length cap', .int .i64 s] w fun e w' => e = .returned (.int .i64 (errB (okSlew a b s))) ∧ Below w.heap.size w w' := by
  have HP := Lib.hid (rpair_c A B a b cap cap' w hl hl' hr hs)
  have HW := fun w => Lib.hid (within_c s 1 6 w)
  unfold okSlew
  generalize okTwo a b = x at HP
  generalize inB s 1 6 = y at HW
  cases x with
  | false =>
    go_enter Try.func84, Try.ntmps84
    go_wp2_with (fail)
    refine HP.out.mono ?_
    rintro e w1 ⟨rfl, hb1⟩
    rw [errB_f]
    go_wp2_with (fail)
    go_ret
    exact ⟨rfl, hb1⟩
  | true =>
    cases y with
    | true =>
      go_enter Try.func84, Try.ntmps84
      go_wp2_with (fail)
      refine HP.out.mono ?_
      rintro e w1 ⟨rfl, hb1⟩
      rw [errB_t]
      go_wp2_with (fail)
      refine (HW _).out.mono ?_
      rintro e w2 ⟨rfl, rfl⟩
      go_wp2_with (fail)
      go_ret
      exact ⟨rfl, hb1⟩
    | false =>
      go_enter Try.func84, Try.ntmps84
      go_wp2_with (fail)
      refine HP.out.mono ?_
      rintro e w1 ⟨rfl, hb1⟩
      rw [errB_t]
      go_wp2_with (fail)
      refine (HW _).out.mono ?_
      rintro e w2 ⟨rfl, rfl⟩
      go_wp2_with (fail)
      go_ret
      exact ⟨rfl, hb1⟩
end Go.Proofs.Ytmmjdabioolodaa
