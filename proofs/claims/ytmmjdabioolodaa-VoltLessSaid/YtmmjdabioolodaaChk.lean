/- Whether courses are right, and their jumps: package volt's contract and the specification's. -/
import Derived.Test.YtmmjdabioolodaaFar
import Derived.Test.YtmmjdabioolodaaSmc
import Derived.Test.YtmmjdabioolodaaChv
namespace Go.Proofs.Ytmmjdabioolodaa
open Go.RowKit

/-- Whether the first k voltages make their wishes. -/
def mkTo (g row s : List (List Int)) (k : Nat) : Bool := allTo (fun i => makeB g (row.getD i []) (s.getD i [])) k
def volB (g row s : List (List Int)) : Bool := decide (s.length = row.length) && eachN s (wires g) 3 s.length
/-- The jump of a course, and the error. -/
def chkG (g row s : List (List Int)) : Int × Int :=
  if (rowB g row && volB g row s) = true then (if mkTo g row s s.length = true then (jumpC s, 0) else (0, 7)) else (0, 1)
theorem chk_course {g row s : List (List Int)} (hr : rowB g row = true) : (chkG g row s).2 = 0 ↔ CourseP g row s := by
  unfold chkG volB
  rw [hr]
  constructor
  · intro h
    split at h
    · rename_i h1
      rw [Bool.true_and, Bool.and_eq_true, decide_eq_true_eq] at h1
      split at h
      · rename_i h2
        refine ⟨h1.1, fun i hi => mem_makers.2 ⟨?_, ?_⟩⟩
        · exact (okN_iff (by decide)).1 (allTo_iff.1 h1.2 i (by omega))
        · exact makeB_iff.1 (allTo_iff.1 h2 i (by omega))
      · cases h
    · cases h
  · rintro ⟨h1, h2⟩
    rw [if_pos, if_pos]
    · exact allTo_iff.2 fun i hi => makeB_iff.2 (mem_makers.1 (h2 i (by omega))).2
    · rw [Bool.true_and, Bool.and_eq_true, decide_eq_true_eq]
      exact ⟨h1, allTo_iff.2 fun i hi => (okN_iff (by decide)).2 (mem_makers.1 (h2 i (by omega))).1⟩
theorem chk_jump {g row s : List (List Int)} (h : (chkG g row s).2 = 0) : (chkG g row s).1 = jumpC s := by
  unfold chkG at h ⊢
  split
  · rename_i h1
    rw [if_pos h1] at h
    split
    · rfl
    · rename_i h2; rw [if_neg h2] at h; cases h
  · rename_i h1; rw [if_neg h1] at h; cases h
theorem far_jump {s : List (List Int)} {m : Nat} (hl : s.length = m + 1) : ∀ k, k ≤ m → farTo (s.take m) (s.drop 1) k = jumpCTo s k
  | 0, _ => rfl
  | k + 1, hk => by
    rw [farTo, jumpCTo, far_jump hl k (by omega)]
    have e1 : (s.take m).getD k [] = s.getD k [] := by rw [List.getD_eq_getElem?_getD, List.getElem?_take_of_lt (by omega), List.getD_eq_getElem?_getD]
    have e2 : (s.drop 1).getD k [] = s.getD (k + 1) [] := by rw [List.getD_eq_getElem?_getD, List.getElem?_drop, List.getD_eq_getElem?_getD, Nat.add_comm]
    rw [e1, e2]
theorem vol_ok {g row s : List (List Int)} (h : volB g row s = true) : s.length = row.length ∧ ∀ k, k < s.length → OkV (s.getD k []) (wires g) 3 := by
  unfold volB at h
  rw [Bool.and_eq_true, decide_eq_true_eq] at h
  exact ⟨h.1, fun k hk => (okN_iff (by decide)).1 (allTo_iff.1 h.2 k hk)⟩
set_option maxRecDepth 100000 in
set_option maxHeartbeats 8000000 in
theorem CheckCourse_c (A B C : Option Addr) (R T S : Rows) (g row s : List (List Int)) (cap cap' cap2 : Nat) (w : World) (hl : Brief g) (hl' : Brief row) (hl2 : Brief s) (hcap : s.length ≤ cap2) (hr : RT w A R g) (hs : RT w B T row) (ht : RT w C S s) :
    Calls Try.prog 44 #[.slice A g.length cap, .slice B row.length cap', .slice C s.length cap2] w fun e w' => e = .returned (.tuple #[.int .i64 (chkG g row s).1, .int .i64 (chkG g row s).2]) ∧ Below w.heap.size w w' := by
  have HV := Lib.hid (validateRow_c A B R T g row cap cap' w hl hl' hr hs)
  change Hid (Calls _ _ _ _ fun e w' => e = .returned (.int .i64 (errB (rowB g row))) ∧ _) at HV
  have HFO : Hid (∀ (w' : World) (x y : Int), chkG g row s = (x, y) → Below w.heap.size w w' → Ending.returned (.tuple #[.int .i64 x, .int .i64 y]) = .returned (.tuple #[.int .i64 (chkG g row s).1, .int .i64 (chkG g row s).2]) ∧ Below w.heap.size w w') := fun w' x y h1 h2 => by rw [h1]; exact ⟨rfl, h2⟩
  rcases hx : rowB g row with _ | _
  · rw [hx] at HV
    have HG : Hid (chkG g row s = (0, 1)) := by show _ = _; unfold chkG; rw [hx]; rfl
    generalize chkG g row s = res at *
    go_enter Try.func44, Try.ntmps44
    go_wp2_with (fail)
    refine HV.out.mono ?_
    rintro e w1 ⟨rfl, hb1⟩
    rw [errB_f]
    go_wp2_with (fail)
    go_ret2
    exact HFO.out _ _ _ HG.out hb1
  · rw [hx] at HV
    have hok := rowB_iff.1 hx
    have hp3 := hok.1.pts
    have HW := fun w1 (hb : Below w.heap.size w w1) => Lib.hid (wiresOf_c A R g cap w1 (by omega) (hr.later hb))
    have HE := fun w1 (hb : Below w.heap.size w w1) => Lib.hid (validateEach_c C S s cap2 (wires g) 3 w1 hl2.1 hl2.2 (by decide) (ht.later hb))
    by_cases hlen : s.length = row.length
    · rcases hy : eachN s (wires g) 3 s.length with _ | _
      · have HG : Hid (chkG g row s = (0, 1)) := by show _ = _; unfold chkG volB; rw [hx, hy]; simp
        rw [hy] at HE
        have hq : (s.length : Int) = (row.length : Int) := by omega
        generalize chkG g row s = res at *
        generalize wires g = n at *
        clear hlen
        go_enter Try.func44, Try.ntmps44
        go_wp2_with (fail)
        refine HV.out.mono ?_
        rintro e w1 ⟨rfl, hb1⟩
        rw [errB_t]
        go_wp2_with (fail)
        refine (HW _ hb1).out.mono ?_
        rintro e w2 ⟨rfl, rfl⟩
        go_wp2_with (fail)
        refine (HE _ hb1).out.mono ?_
        rintro e w2 ⟨rfl, hb2⟩
        rw [errB_f]
        go_wp2_with (fail)
        go_ret2
        exact HFO.out _ _ _ HG.out (bl_call hb1 hb2)
      · have hvol : volB g row s = true := by unfold volB; rw [decide_eq_true hlen, hy]; rfl
        have hvs := (vol_ok hvol).2
        rw [hy] at HE
        have HG : Hid (chkG g row s = if mkTo g row s s.length = true then (jumpC s, 0) else (0, 7)) := by show _ = _; unfold chkG; rw [hx, hvol]; rfl
        have hq : (s.length : Int) = (row.length : Int) := by omega
        have hl5 := hok.2.len
        obtain ⟨m, hm⟩ : ∃ m, s.length = m + 1 := ⟨s.length - 1, by omega⟩
        have HJ : Hid (farTo (s.take m) (s.drop 1) m = jumpC s) := by show _ = _; rw [far_jump hm m (Nat.le_refl _), ← jumpCTo_all, hm, Nat.add_sub_cancel]
        obtain ⟨b1, o1, rfl, _, HT⟩ := hs.all_ (by omega)
        obtain ⟨b2, o2, rfl, _, HS⟩ := ht.all_ (by omega)
        have htl : (s.take m).length = m := by simp; omega
        have hdl : (s.drop 1).length = m := by simp; omega
        have hvt : ∀ k, k < m → OkV ((s.take m).getD k []) (wires g) 3 := fun k hk => by
          rw [show (s.take m).getD k [] = s.getD k [] by rw [List.getD_eq_getElem?_getD, List.getElem?_take_of_lt hk, List.getD_eq_getElem?_getD]]; exact hvs k (by omega)
        have hvd : ∀ k, k < m → OkV ((s.drop 1).getD k []) (wires g) 3 := fun k hk => by
          rw [show (s.drop 1).getD k [] = s.getD (k + 1) [] by rw [List.getD_eq_getElem?_getD, List.getElem?_drop, List.getD_eq_getElem?_getD, Nat.add_comm]]; exact hvs (k + 1) (by omega)
        have HFR := fun w1 (hb : Below w.heap.size w w1) => Lib.hid (farthestR_c (some ⟨b2, o2, none⟩) (if cap2 = 1 then some ⟨b2, o2, none⟩ else some ⟨b2, o2 + 1, none⟩) S (tailR S) (s.take m) (s.drop 1) cap2 (cap2 - 1) (wires g) w1 (by rw [htl, hdl]) (by omega) hok.1.wrs.2
(fun k hk => hvt k (by rw [htl] at hk; exact hk)) (fun k hk => hvd k (by rw [hdl] at hk; exact hk)) (rt_take (ht.later hb) m) (rt_tail (n := m) hm (by omega) (ht.later hb)))
        simp only [htl, hdl, HJ.out] at HFR
        have HH := fun W => Lib.hid (head_run b2 o2 m cap2 (by omega) W)
        have HTL := fun W => Lib.hid (tail_run b2 o2 m cap2 (by omega) W)
        have HF := fun k (hk : k < s.length) w1 (hb : Below w.heap.size w w1) => Lib.hid (fieldOf_c A (S k).1 R g (s.getD k []) cap (S k).2 w1 hok.1 (hvs k hk) (hr.later hb) ((ht.row k hk).later hb))
        have HQ := fun k (hk : k < s.length) (D : Option Addr) (d : Nat) w1 (hb : Below w.heap.size w w1) (hd : Rd w1 D (ints (fieldL g (s.getD k [])))) => Lib.hid (equal_c D (T k).1 (fieldL g (s.getD k [])) (row.getD k []) d (T k).2 w1 (by rw [fieldL_len]; omega) hd ((hs.row k (by omega)).later hb))
        simp only [make_decide, fieldL_len] at HQ
        have HM : Hid (∀ k, mkTo g row s (k + 1) = (mkTo g row s k && makeB g (row.getD k []) (s.getD k []))) := fun k => rfl
        have HM0 : Hid (mkTo g row s 0 = true) := rfl
        have HMN : Hid (∀ k, k < s.length → makeB g (row.getD k []) (s.getD k []) = false → mkTo g row s s.length = false) := fun k hk h => allTo_no hk h
        have HT2 := Lib.hid (fun w1 (hb : Below w.heap.size w w1) k (hk : k < s.length) => HT w1 hb k (by omega))
        have HS2 := Lib.hid HS
        have hm5 : m ≤ 5 := by omega
        rw [hm] at HE HS2 HT2 HMN HG HF HQ hq ⊢
        generalize jumpC s = J at *
        generalize chkG g row s = res at *
        generalize wires g = n at *
        generalize (if cap2 = 1 then some (⟨b2, o2, none⟩ : Addr) else some ⟨b2, o2 + 1, none⟩) = D2 at *
        replace hq : (row.length : Int) = (m : Int) + 1 := by omega
        have hrl : m < row.length := by omega
        have HRL := Lib.hid hq
        have q1 : wrap64 ((m : Int) + 1 - 1) = (m : Int) := by rw [Int.add_sub_cancel]; exact IntWalk.wrap64_in _ ⟨by omega, by omega⟩
        clear hl hl' hl2 hcap hx hok hp3 hy hvol hvs hl5 HT HS ht hs hr htl hdl hlen hvt hvd
        go_enter Try.func44, Try.ntmps44
        go_wp2_with (fail)
        refine HV.out.mono ?_
        rintro e w1 ⟨rfl, hb1⟩
        rw [errB_t]
        go_wp2_with (fail)
        clear hq
        refine (HW _ hb1).out.mono ?_
        rintro e w2 ⟨rfl, rfl⟩
        go_wp2_with (fail)
        refine (HE _ hb1).out.mono ?_
        rintro e w2 ⟨rfl, hb2⟩
        rw [errB_t]
        replace hb1 := bl_call hb1 hb2
        go_wp2_with (fail)
        go_loopg [33] (m + 1) (fun gk iv wr => ∃ k : Nat, Hid (k + gk = m + 1) ∧ iv = .int .i64 (k : Int) ∧ Hid (mkTo g row s k = true) ∧ Below w.heap.size w wr)
        case atStart => exact ⟨0, by simp [Hid], rfl, HM0.out, hb1⟩
        case round =>
          clear hb1 hb2
          obtain ⟨k, HK, rfl, hmk, hb⟩ := hrel
          rcases gk with _ | gi
          · obtain rfl : k = m + 1 := HK.out
            have hdr : Below w.heap.size w wr.drew := hb.drew
            go_wp2_with (fail)
            have z1 := fun W => (HH W).out
            have z2 := fun W => (HTL W).out
            go_region_law (go_simp; refine (HFR wr.drew hdr).out.mono ?_; rintro e w9 ⟨rfl, hb9'⟩; try go_simp)
            all_goals
              have hb9 := bl_call hdr hb9'
              go_wp2_with (fail)
              go_ret2
              exact HFO.out _ _ _ (by rw [HG.out, if_pos hmk.out]) hb9
          · have hkN : k < m + 1 := by have := HK.out; omega
            have hkN' : (k : Int) < (m : Int) + 1 := by omega
            have hkN2 : (k : Int) < (row.length : Int) := by have := HRL.out; omega
            have c1 := HS2.out wr hb k hkN
            have hdr : Below w.heap.size w wr.drew := hb.drew
            have c2 := HT2.out wr.drew hdr k hkN
            have HFk := HF k hkN wr.drew hdr
            have HMk := Lib.hid (HM.out k)
            have HMNk := Lib.hid (HMN.out k hkN)
            have HTk := Lib.hid (fun w1 hb => HT2.out w1 hb k hkN)
            have HQk := HQ k hkN
            clear HQ HF
            generalize (s.getD k []).length = n1 at *
            generalize (row.getD k []).length = n2 at *
            generalize hz : makeB g (row.getD k []) (s.getD k []) = z at *
            go_wp2_with (fail)
            go_region_law (first
              | (go_simp; refine HFk.out.mono ?_; rintro e w4 ⟨rfl, hR4, hb4⟩; have hb04 := bl_call hdr hb4; have c4 := HTk.out w4 hb04; have HE4 := HQk _ g.length w4 hb04 hR4.rd; try go_simp)
              | (go_simp; refine HE4.out.mono ?_; rintro e w5 ⟨rfl, hb5⟩; try go_simp))
            all_goals
              have hb05 := bl_call hb04 hb5
              cases z with
              | true =>
                go_wp2_with (fail)
                go_roundg gi
                case rel => exact ⟨k + 1, by have := HK.out; show _ = _; omega, by go_num, by show _ = _; rw [HMk.out, hmk.out]; rfl, hb05⟩
                case measure => omega
              | false =>
                go_wp2_with (fail)
                go_ret2
                exact HFO.out _ _ _ (by rw [HG.out, if_neg (by rw [HMNk.out (by first | rfl | trivial)]; decide)]) hb05
    · have HG : Hid (chkG g row s = (0, 1)) := by show _ = _; unfold chkG volB; rw [hx, decide_eq_false hlen]; rfl
      have hq : ¬ (s.length : Int) = (row.length : Int) := by omega
      generalize chkG g row s = res at *
      clear hlen
      go_enter Try.func44, Try.ntmps44
      go_wp2_with (fail)
      refine HV.out.mono ?_
      rintro e w1 ⟨rfl, hb1⟩
      rw [errB_t]
      go_wp2_with (fail)
      go_ret2
      exact HFO.out _ _ _ HG.out hb1
end Go.Proofs.Ytmmjdabioolodaa
