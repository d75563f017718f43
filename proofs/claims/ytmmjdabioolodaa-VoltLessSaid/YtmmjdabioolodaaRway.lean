/- Fields, voltages of a wish, how many there are and the calmest: the specification's contracts. -/
import Derived.Test.YtmmjdabioolodaaMeet
import Derived.Test.YtmmjdabioolodaaDef
import Derived.Test.YtmmjdabioolodaaJmp
namespace Go.Proofs.Ytmmjdabioolodaa
open Go.RowKit

set_option maxHeartbeats 1000000 in
theorem rField_c (A B : Option Addr) (R : Rows) (g : List (List Int)) (v : List Int) (cap cap' : Nat) (w : World) (hl : Brief g) (hl' : v.length ≤ 1000) (hr : RT w A R g) (hs : Rd w B (ints v)) :
    Calls Try.prog 20 #[.slice A g.length cap, .slice B v.length cap'] w (OutI (fieldG g v) (errB (okG g && okL g v)) w) := by
  have HV := Lib.hid (rValidate_c A R g cap w hl hr)
  have HI := fun (h : okG g = true) w1 (hb : Below w.heap.size w w1) => Lib.hid (isVolts_c A B R g v cap cap' w1 (okG_pos h) hl' (hr.later hb) (hs.later hb))
  have HF := fun (h : okG g = true) (h' : okL g v = true) w1 (hb : Below w.heap.size w w1) => Lib.hid (rfield_c A B R g v cap cap' w1 (okG_iff.1 h) ((okN_iff (by decide)).1 h') (hr.later hb) (hs.later hb))
  have hfl := Lib.hid (fieldL_len g v)
  unfold OutI fieldG
  generalize okG g = x at *
  generalize okL g v = y at *
  generalize fieldL g v = F at *
  cases x with
  | false =>
    clear HF HI
    go_enter Try.func20, Try.ntmps20
    go_wp2_with (fail)
    refine HV.out.mono ?_
    rintro e w1 ⟨rfl, hb1⟩
    rw [errB_f]
    go_wp2_with (fail)
    go_ret2
    exact ⟨none, 0, rfl, World.ownsRow_nil _ _ _ _, hb1⟩
  | true =>
    replace HI := HI rfl
    cases y with
    | false =>
      clear HF
      go_enter Try.func20, Try.ntmps20
      go_wp2_with (fail)
      refine HV.out.mono ?_
      rintro e w1 ⟨rfl, hb1⟩
      rw [errB_t]
      go_wp2_with (fail)
      refine (HI _ hb1).out.mono ?_
      rintro e w2 ⟨rfl, hb2⟩
      go_wp2_with (fail)
      go_ret2
      exact ⟨none, 0, rfl, World.ownsRow_nil _ _ _ _, bl_call hb1 hb2⟩
    | true =>
      replace HF := HF rfl rfl
      rw [if_pos (show (true && true) = true from rfl)]
      go_enter Try.func20, Try.ntmps20
      go_wp2_with (fail)
      refine HV.out.mono ?_
      rintro e w1 ⟨rfl, hb1⟩
      rw [errB_t]
      go_wp2_with (fail)
      refine (HI _ hb1).out.mono ?_
      rintro e w2 ⟨rfl, hb2⟩
      have hb12 := bl_call hb1 hb2
      go_wp2_with (fail)
      refine (HF _ hb12).out.mono ?_
      rintro e w3 ⟨A3, c3, rfl, hown, hb3⟩
      have hown2 := own_base hown hb12.size
      go_wp2_with (fail)
      go_ret2
      exact ⟨A3, c3, by rw [hfl.out]; rfl, by rw [hfl.out]; exact hown2, bl_call hb12 hb3⟩
set_option maxHeartbeats 2000000 in
theorem rCheckVolts_c (A B C : Option Addr) (R : Rows) (g : List (List Int)) (l v : List Int) (cap cap' cap2 : Nat) (w : World) (hl : Brief g) (hl' : l.length ≤ 1000) (hl2 : v.length ≤ 1000) (hr : RT w A R g) (hs : Rd w B (ints l)) (ht : Rd w C (ints v)) :
    Calls Try.prog 25 #[.slice A g.length cap, .slice B l.length cap', .slice C v.length cap2] w fun e w' => e = .returned (.int .i64 (chvE g l v)) ∧ Below w.heap.size w w' := by
  have HV := Lib.hid (rWished_c A B R g l cap cap' w hl hl' hr hs)
  change Hid (Calls _ _ _ _ fun e w' => e = .returned (.int .i64 (errB (wayB g l))) ∧ _) at HV
  have HI := fun (h : wayB g l = true) w1 (hb : Below w.heap.size w w1) => Lib.hid (isVolts_c A C R g v cap cap2 w1 (by have := (wayB_iff h).1.pts; omega) hl2 (hr.later hb) (ht.later hb))
  have HF := fun (h : wayB g l = true) (h' : okL g v = true) w1 (hb : Below w.heap.size w w1) => Lib.hid (rfield_c A C R g v cap cap2 w1 (wayB_iff h).1 ((okN_iff (by decide)).1 h') (hr.later hb) (ht.later hb))
  have hfl := fieldL_len g v
  have HE := fun (h : wayB g l = true) (D : Option Addr) (d : Nat) (w1 : World) (hd : Rd w1 D (ints (fieldL g v))) (hb : Below w.heap.size w w1) => Lib.hid (sameInts_c D B (fieldL g v) l d cap' w1 (by rw [hfl]; have := (wayB_iff h).1.pts; omega) hd (hs.later hb))
  rw [make_decide, hfl] at HE
  unfold chvE
  clear hfl
  generalize wayB g l = x at *
  generalize okL g v = y at *
  generalize fieldL g v = F at *
  generalize makeB g l v = z at *
  cases x with
  | false =>
    clear HF HI HE
    go_enter Try.func25, Try.ntmps25
    go_wp2_with (fail)
    refine HV.out.mono ?_
    rintro e w1 ⟨rfl, hb1⟩
    rw [errB_f]
    go_wp2_with (fail)
    go_ret
    exact ⟨rfl, hb1⟩
  | true =>
    replace HI := HI rfl
    replace HE := HE rfl
    cases y with
    | false =>
      clear HF HE
      go_enter Try.func25, Try.ntmps25
      go_wp2_with (fail)
      refine HV.out.mono ?_
      rintro e w1 ⟨rfl, hb1⟩
      rw [errB_t]
      go_wp2_with (fail)
      refine (HI _ hb1).out.mono ?_
      rintro e w2 ⟨rfl, hb2⟩
      go_wp2_with (fail)
      go_ret
      exact ⟨rfl, bl_call hb1 hb2⟩
    | true =>
      replace HF := HF rfl rfl
      rw [if_pos (show (true && true) = true from rfl)]
      go_enter Try.func25, Try.ntmps25
      go_wp2_with (fail)
      refine HV.out.mono ?_
      rintro e w1 ⟨rfl, hb1⟩
      rw [errB_t]
      go_wp2_with (fail)
      refine (HI _ hb1).out.mono ?_
      rintro e w2 ⟨rfl, hb2⟩
      have hb12 := bl_call hb1 hb2
      go_wp2_with (fail)
      refine (HF _ hb12).out.mono ?_
      rintro e w3 ⟨A3, c3, rfl, hown, hb3⟩
      have hb13 := bl_call hb12 hb3
      have HE3 := HE A3 c3 w3 (own_rd hown).1 hb13
      clear HE HI HF
      go_wp2_with (fail)
      refine HE3.out.mono ?_
      rintro e w4 ⟨rfl, hb4⟩
      cases z with
      | true =>
        go_wp2_with (fail)
        go_ret
        exact ⟨rfl, bl_call hb13 hb4⟩
      | false =>
        go_wp2_with (fail)
        go_ret
        exact ⟨rfl, bl_call hb13 hb4⟩
set_option maxHeartbeats 1000000 in
theorem rWays_c (A B : Option Addr) (R : Rows) (g : List (List Int)) (l : List Int) (cap cap' : Nat) (w : World) (hl : Brief g) (hl' : l.length ≤ 1000) (hr : RT w A R g) (hs : Rd w B (ints l)) :
    Calls Try.prog 27 #[.slice A g.length cap, .slice B l.length cap'] w fun e w' => e = .returned (.tuple #[.int .i64 (wayG g l), .int .i64 (errB (wayB g l))]) ∧ Below w.heap.size w w' := by
  have HV := Lib.hid (rWished_c A B R g l cap cap' w hl hl' hr hs)
  change Hid (Calls _ _ _ _ fun e w' => e = .returned (.int .i64 (errB (wayB g l))) ∧ _) at HV
  have HM := fun (h : wayB g l = true) w1 (hb : Below w.heap.size w w1) => Lib.hid (meeting_c A B R g l cap cap' w1 (wayB_iff h).1 (hr.later hb) (hs.later hb))
  unfold wayG
  generalize wayB g l = x at *
  generalize makersL g l = M at *
  cases x with
  | false =>
    clear HM
    go_enter Try.func27, Try.ntmps27
    go_wp2_with (fail)
    refine HV.out.mono ?_
    rintro e w1 ⟨rfl, hb1⟩
    rw [errB_f]
    go_wp2_with (fail)
    go_ret2
    exact ⟨rfl, hb1⟩
  | true =>
    replace HM := HM rfl
    rw [if_pos rfl]
    go_enter Try.func27, Try.ntmps27
    go_wp2_with (fail)
    refine HV.out.mono ?_
    rintro e w1 ⟨rfl, hb1⟩
    rw [errB_t]
    go_wp2_with (fail)
    refine (HM _ hb1).out.mono ?_
    rintro e w2 ⟨A2, c2, hs2, rfl, hown, htab, hb2⟩
    go_wp2_with (fail)
    go_ret2
    exact ⟨rfl, bl_call hb1 hb2⟩
theorem leastTo_step (M : List (List Int)) (k : Nat) (h : k < M.length) : leastF (M.take (k + 1)) = min (leastF (M.take k)) (sizeL (M.getD k [])) := by
  rw [row_take_succ h, leastF_snoc]
set_option maxHeartbeats 2000000 in
theorem rCalmest_c (A B : Option Addr) (R : Rows) (g : List (List Int)) (l : List Int) (cap cap' : Nat) (w : World) (hl : Brief g) (hl' : l.length ≤ 1000) (hr : RT w A R g) (hs : Rd w B (ints l)) :
    Calls Try.prog 34 #[.slice A g.length cap, .slice B l.length cap'] w fun e w' => e = .returned (.tuple #[.int .i64 (calmG g l).1, .bool (calmG g l).2, .int .i64 (errB (wayB g l))]) ∧ Below w.heap.size w w' := by
  have HV := Lib.hid (rWished_c A B R g l cap cap' w hl hl' hr hs)
  change Hid (Calls _ _ _ _ fun e w' => e = .returned (.int .i64 (errB (wayB g l))) ∧ _) at HV
  have HM := fun (h : wayB g l = true) w1 (hb : Below w.heap.size w w1) => Lib.hid (meeting_c A B R g l cap cap' w1 (wayB_iff h).1 (hr.later hb) (hs.later hb))
  have HML := fun (h : wayB g l = true) => makers_len g l (wayB_iff h).1.wrs.2
  have HOK : Hid (∀ k, k < (makersL g l).length → OkV ((makersL g l).getD k []) (wires g) 3) := fun k hk => (mem_makers.1 (show (makersL g l).getD k [] ∈ makersL g l by simp [hk])).1
  have HW3 := fun (h : wayB g l = true) => (wayB_iff h).1.wrs.2
  unfold calmG calmL
  generalize wayB g l = x at *
  generalize makersL g l = M at *
  cases x with
  | false =>
    clear HM
    rw [if_neg (by decide)]
    go_enter Try.func34, Try.ntmps34
    go_wp2_with (fail)
    refine HV.out.mono ?_
    rintro e w1 ⟨rfl, hb1⟩
    rw [errB_f]
    go_wp2_with (fail)
    go_ret3
    exact ⟨rfl, hb1⟩
  | true =>
    replace HM := HM rfl
    replace HML := HML rfl
    have HW3 := HW3 rfl
    rw [if_pos rfl]
    by_cases h0 : M.length = 0
    · rw [if_pos h0]
      have h0' : (M.length : Int) = 0 := by omega
      go_enter Try.func34, Try.ntmps34
      go_wp2_with (fail)
      refine HV.out.mono ?_
      rintro e w1 ⟨rfl, hb1⟩
      rw [errB_t]
      go_wp2_with (fail)
      refine (HM _ hb1).out.mono ?_
      rintro e w2 ⟨A2, c2, hs2, rfl, hown, htab, hb2⟩
      go_wp2_with (fail)
      go_ret3
      exact ⟨rfl, bl_call hb1 hb2⟩
    · rw [if_neg h0]
      have hpos : 0 < M.length := by omega
      have hpos' : (0 : Int) < (M.length : Int) := by omega
      have hne : ¬ M = [] := by rintro rfl; simp at hpos
      have hq : ((M.length : Int) == 0) = false := by simp; exact hne
      have HT := Lib.hid (leastTo_step M)
      have HA : Hid (leastF (M.take M.length) = leastF M) := by show _ = _; rw [List.take_length]
      have H0 : Hid (leastF (M.take 0) = 3) := rfl
      generalize leastF M = res at HA
      go_enter Try.func34, Try.ntmps34
      go_wp2_with (fail)
      refine HV.out.mono ?_
      rintro e w1 ⟨rfl, hb1⟩
      rw [errB_t]
      go_wp2_with (fail)
      refine (HM _ hb1).out.mono ?_
      rintro e w2 ⟨A2, c2, hs2, rfl, hown, htab, hb2⟩
      have hb12 := bl_call hb1 hb2
      obtain ⟨S, rfl, hrt, _⟩ := htab.rt hown
      obtain ⟨b, o, rfl, hbl, HC⟩ := hrt.all_ hpos
      clear hown htab HM hb1 hb2
      go_wp2_with (fail)
      go_loopg [9, 10] M.length (fun gk mv iv wr => ∃ k : Nat, Hid (k + gk = M.length) ∧ iv = .int .i64 (k : Int) ∧ mv = .int .i64 (leastF (M.take k)) ∧ Below w2.heap.size w2 wr)
      case atStart => exact ⟨0, by simp [Hid], rfl, by rw [H0.out], Below.refl _ _⟩
      case round =>
        obtain ⟨k, HK, rfl, rfl, hb⟩ := hrel
        rcases gk with _ | gi
        · obtain rfl : k = M.length := HK.out
          have hbw := bl_call hb12 hb
          go_wp2_with (fail)
          go_ret3
          exact ⟨by rw [HA.out]; rfl, hbw⟩
        · have hkN : k < M.length := by have := HK.out; omega
          have hkN' : (k : Int) < (M.length : Int) := by omega
          have hck := HC wr hb k hkN
          have hok := HOK.out k hkN
          have HZ := Lib.hid (rsize_c (S k).1 (M.getD k []) (S k).2 wr (by have := hok.len; omega) (small_get hok (by decide)) ((hrt.row k hkN).later hb))
          have HTK := Lib.hid (HT.out k hkN)
          generalize leastF (M.take k) = m at *
          generalize M.getD k [] = x at *
          generalize sizeL x = z at *
          clear HC
          go_wp2_with (fail)
          refine HZ.out.mono ?_
          rintro e w3 ⟨rfl, hb3⟩
          go_wp2_with (fail)
          all_goals
            go_roundg gi
            case rel => exact ⟨k + 1, by have := HK.out; show _ = _; omega, by go_num, by rw [HTK.out]; exact congrArg _ (by omega), bl_call hb hb3⟩
            case measure => omega
end Go.Proofs.Ytmmjdabioolodaa
