/- Whether courses are right, and their jumps: the specification's contract. -/
import Derived.Test.YtmmjdabioolodaaChk
namespace Go.Proofs.Ytmmjdabioolodaa
open Go.RowKit

set_option maxRecDepth 100000 in
set_option maxHeartbeats 8000000 in
theorem rCheckCourse_c (A B C : Option Addr) (R T S : Rows) (g row s : List (List Int)) (cap cap' cap2 : Nat) (w : World) (hl : Brief g) (hl' : Brief row) (hl2 : Brief s) (hr : RT w A R g) (hs : RT w B T row) (ht : RT w C S s) :
    Calls Try.prog 45 #[.slice A g.length cap, .slice B row.length cap', .slice C s.length cap2] w fun e w' => e = .returned (.tuple #[.int .i64 (chkG g row s).1, .int .i64 (chkG g row s).2]) ∧ Below w.heap.size w w' := by
  have HV := Lib.hid (rRowed_c A B R T g row cap cap' w hl hl' hr hs)
  change Hid (Calls _ _ _ _ fun e w' => e = .returned (.int .i64 (errB (rowB g row))) ∧ _) at HV
  have HFO : Hid (∀ (w' : World) (x y : Int), chkG g row s = (x, y) → Below w.heap.size w w' → Ending.returned (.tuple #[.int .i64 x, .int .i64 y]) = .returned (.tuple #[.int .i64 (chkG g row s).1, .int .i64 (chkG g row s).2]) ∧ Below w.heap.size w w') := fun w' x y h1 h2 => by rw [h1]; exact ⟨rfl, h2⟩
  rcases hx : rowB g row with _ | _
  · rw [hx] at HV
    have HG : Hid (chkG g row s = (0, 1)) := by show _ = _; unfold chkG; rw [hx]; rfl
    generalize chkG g row s = res at *
    go_enter Try.func45, Try.ntmps45
    go_wp2_with (fail)
    refine HV.out.mono ?_
    rintro e w1 ⟨rfl, hb1⟩
    rw [errB_f]
    go_wp2_with (fail)
    go_ret2
    exact HFO.out _ _ _ HG.out hb1
  · rw [hx] at HV
    have hok := rowB_iff.1 hx
    have hp3 := hok.1.pts
    by_cases hlen : s.length = row.length
    · have hl5 := hok.2.len
      have HRL := Lib.hid hlen
      obtain ⟨b1, o1, rfl, _, HT⟩ := hs.all_ (by omega)
      obtain ⟨b2, o2, rfl, _, HS⟩ := ht.all_ (by omega)
      have HT2 := Lib.hid (fun w1 (hb : Below w.heap.size w w1) k (hk : k < s.length) => HT w1 hb k (by omega))
      have HS2 := Lib.hid HS
      have HI := fun k (hk : k < s.length) w1 (hb : Below w.heap.size w w1) => Lib.hid (isVolts_c A (S k).1 R g (s.getD k []) cap (S k).2 w1 (by omega) (hl2.2 k hk) (hr.later hb) ((ht.row k hk).later hb))
      have HE1 : Hid (∀ k, k < s.length → okL g (s.getD k []) = false → chkG g row s = (0, 1)) := fun k hk h => by
        have h2 : eachN s (wires g) 3 s.length = false := allTo_no hk h
        show _ = _; unfold chkG volB; rw [hx, h2]; simp
      have hvs : (∀ k, k < s.length → okL g (s.getD k []) = true) → ∀ k, k < s.length → OkV (s.getD k []) (wires g) 3 := fun h k hk => (okN_iff (by decide)).1 (h k hk)
      have HF := Lib.hid fun (h : ∀ k, k < s.length → okL g (s.getD k []) = true) k (hk : k < s.length) w1 (hb : Below w.heap.size w w1) => Lib.hid (rfield_c A (S k).1 R g (s.getD k []) cap (S k).2 w1 hok.1 (hvs h k hk) (hr.later hb) ((ht.row k hk).later hb))
      have HQ := Lib.hid fun k (hk : k < s.length) (D : Option Addr) (d : Nat) w1 (hb : Below w.heap.size w w1) (hd : Rd w1 D (ints (fieldL g (s.getD k [])))) => (by
        have := Lib.hid (sameInts_c D (T k).1 (fieldL g (s.getD k [])) (row.getD k []) d (T k).2 w1 (by rw [fieldL_len]; omega) hd ((hs.row k (by omega)).later hb))
        rw [make_decide, fieldL_len] at this
        exact this : Hid (Calls Try.prog 23 #[.slice D g.length d, .slice (T k).1 (row.getD k []).length (T k).2] w1 fun e w' => e = .returned (.bool (makeB g (row.getD k []) (s.getD k []))) ∧ Below w1.heap.size w1 w'))
      have HJ := Lib.hid fun (h : ∀ k, k < s.length → okL g (s.getD k []) = true) j k (hk : k = j + 1) (hkl : k < s.length) w1 (hb : Below w.heap.size w w1) => Lib.hid (rjump_c (S j).1 (S k).1 (s.getD j []) (s.getD k []) (S j).2 (S k).2 w1 (by rw [(hvs h j (by omega)).len, (hvs h k hkl).len]) (by rw [(hvs h j (by omega)).len]; have := hok.1.wrs; omega) (fun i => ⟨small_get (hvs h j (by omega)) (by decide) i, small_get (hvs h k hkl) (by decide) i⟩) ((ht.row j (by omega)).later hb) ((ht.row k hkl).later hb))
      have HG : Hid ((∀ k, k < s.length → okL g (s.getD k []) = true) → chkG g row s = if mkTo g row s s.length = true then (jumpC s, 0) else (0, 7)) := fun h => by
        have h2 : eachN s (wires g) 3 s.length = true := allTo_iff.2 h
        show _ = _; unfold chkG volB; rw [hx, h2, decide_eq_true hlen]; rfl
      have HM : Hid (∀ k, mkTo g row s (k + 1) = (mkTo g row s k && makeB g (row.getD k []) (s.getD k []))) := fun k => rfl
      have HM0 : Hid (mkTo g row s 0 = true) := rfl
      have HMN : Hid (∀ k, k < s.length → makeB g (row.getD k []) (s.getD k []) = false → mkTo g row s s.length = false) := fun k hk h => allTo_no hk h
      have HC : Hid (∀ j, jumpCTo s (j + 1) = max (jumpCTo s j) (jumpL (s.getD j []) (s.getD (j + 1) []))) := fun j => rfl
      have HC0 : Hid (jumpCTo s 0 = 0) := rfl
      have HCA : Hid (jumpCTo s (s.length - 1) = jumpC s) := jumpCTo_all s
      have hq : (row.length : Int) = (s.length : Int) := by omega
      have hs5 : s.length ≤ 5 := by omega
      have hs1 : 0 < s.length := by omega
      generalize chkG g row s = res at *
      clear hl hl' hl2 hx hok hp3 hl5 HT HS ht hs hr hlen hvs
      go_enter Try.func45, Try.ntmps45
      go_wp2_with (fail)
      refine HV.out.mono ?_
      rintro e w1 ⟨rfl, hb1⟩
      rw [errB_t]
      go_wp2_with (fail)
      clear hq
      go_loopg [9] s.length (fun gk iv wr => ∃ k : Nat, Hid (k + gk = s.length) ∧ iv = .int .i64 (k : Int) ∧ Hid (∀ i, i < k → okL g (s.getD i []) = true) ∧ Below w.heap.size w wr)
      case atStart => exact ⟨0, by simp [Hid], rfl, fun i hi => absurd hi (by omega), hb1⟩
      case round =>
        clear hb1
        obtain ⟨k, HK, rfl, hok, hb⟩ := hrel
        rcases gk with _ | gi
        · obtain rfl : k = s.length := HK.out
          have HF2 := Lib.hid (HF.out hok.out)
          have HJ2 := Lib.hid (HJ.out hok.out)
          have HG2 := Lib.hid (HG.out hok.out)
          clear HF HJ HG HI HE1 HK
          go_wp2_with (fail)
          go_loopg [10, 11] s.length (fun gk nv iv wq => ∃ k : Nat, Hid (k + gk = s.length) ∧ iv = .int .i64 (k : Int) ∧ nv = .int .i64 (jumpCTo s (k - 1)) ∧ Hid (mkTo g row s k = true) ∧ Below w.heap.size w wq)
          case atStart => exact ⟨0, by simp [Hid], rfl, by rw [Nat.zero_sub, HC0.out], HM0.out, hb⟩
          case round =>
            clear hb
            obtain ⟨k, HK, rfl, rfl, hmk, hb⟩ := hrel
            rcases gk with _ | gi
            · obtain rfl : k = s.length := HK.out
              go_wp2_with (fail)
              go_ret2
              exact HFO.out _ _ _ (by rw [HG2.out, if_pos hmk.out, HCA.out]) hb
            · have hkN : k < s.length := by have := HK.out; omega
              have hkN' : (k : Int) < (s.length : Int) := by omega
              have hkN2 : (k : Int) < (row.length : Int) := by have := HRL.out; omega
              have hdr : Below w.heap.size w wr.drew := hb.drew
              have c1 := HS2.out wr.drew hdr k hkN
              have c2 := HT2.out wr.drew hdr k hkN
              have HFk := HF2.out k hkN wr.drew hdr
              have HMk := Lib.hid (HM.out k)
              have HMNk := Lib.hid (HMN.out k hkN)
              have HTk := Lib.hid (fun w1 hb => HT2.out w1 hb k hkN)
              have HSk := Lib.hid (fun w1 hb => HS2.out w1 hb k hkN)
              have HQk := Lib.hid (HQ.out k hkN)
              generalize hn1 : (s.getD k []).length = n1 at *
              generalize (row.getD k []).length = n2 at *
              have HN1 := Lib.hid hn1
              clear hn1
              generalize hz : makeB g (row.getD k []) (s.getD k []) = z at *
              go_wp2_with (fail)
              go_region_law (first
                | (go_simp; refine HFk.out.mono ?_; rintro e w4 ⟨A4, c4, rfl, hown4, hb4⟩; have hb04 := bl_call hdr hb4; have c5 := HTk.out w4 hb04; have HE4 := HQk.out _ c4 w4 hb04 (own_rd hown4).1; try go_simp)
                | (go_simp; refine HE4.out.mono ?_; rintro e w5 ⟨rfl, hb5⟩; try go_simp))
              all_goals
                have hb05 := bl_call hb04 hb5
                clear c1 c2 c5 HFk HE4 hown4
                cases z with
                | true =>
                  rcases Nat.eq_zero_or_pos k with h0 | h0
                  · subst h0
                    go_wp2_with (fail)
                    go_roundg gi
                    case rel => exact ⟨1, by have := HK.out; show _ = _; omega, by go_num, rfl, by show _ = _; rw [HMk.out, hmk.out]; rfl, hb05⟩
                    case measure => omega
                  · obtain ⟨j, hj⟩ : ∃ j, k = j + 1 := ⟨k - 1, by omega⟩
                    have HKJ := Lib.hid hj
                    have h0' : (0 : Int) < (k : Int) := by omega
                    have q1 : wrap64 ((k : Int) - 1) = (j : Int) := by rw [show (k : Int) - 1 = (j : Int) by omega]; exact IntWalk.wrap64_in _ ⟨by omega, by omega⟩
                    have q2 : IntKind.i64.wrap ((k : Int) - 1) = (j : Int) := by rw [IntWalk.i64_left]; exact q1
                    have hjN : j < s.length := by omega
                    have hjN' : (j : Int) < (s.length : Int) := by omega
                    have F1 : Hid (∀ W, Below w.heap.size w W → W.cell? ⟨b2, o2 + j, none⟩ = some (.slice (S j).1 (s.getD j []).length (S j).2)) := fun W h => HS2.out W h j hjN
                    have F2 : Hid (∀ W, Below w.heap.size w W → W.cell? ⟨b2, o2 + k, none⟩ = some (.slice (S k).1 n1 (S k).2)) := HSk.out
                    have HJk := Lib.hid (HJ2.out j k hj hkN)
                    have HMX : Hid (jumpCTo s (k + 1 - 1) = max (jumpCTo s (k - 1)) (jumpL (s.getD j []) (s.getD k []))) := by show _ = _; rw [show k + 1 - 1 = j + 1 by omega, show k - 1 = j by omega, HC.out, ← hj]
                    rw [HN1.out] at HJk
                    have hd5 : Below w.heap.size w w5.drew := hb05.drew
                    generalize jumpL (s.getD j []) (s.getD k []) = y at *
                    generalize jumpCTo s (k - 1) = x at *
                    generalize (s.getD j []).length = n3 at *
                    clear hj
                    go_wp2_with (fail)
                    refine wp_region_low (hd5) (by kernel_rfl) (by kernel_rfl) ?_
                    repeat (first
                      | go_big_quiet_skip
                      | (go_big_quiet_want
                         apply Exists.intro
                         refine And.intro (fun W hW => ?_) ?_
                         · (have z1 := F1.out W hW; have z2 := F2.out W hW)
                           go_simp
                           first
                             | exact rfl
                             | (refine (HJk.out W hW).out.mono ?_; rintro e w6 ⟨rfl, hbb⟩; exact ⟨rfl, bl_call hW hbb⟩)
                         try go_simp
                         go_big_quiet_on))
                    all_goals
                      refine wpQuiet_nil ?_
                      intro w9 hb9
                      go_wp2_with (fail)
                    all_goals
                      go_roundg gi
                      case rel => exact ⟨k + 1, by have := HK.out; show _ = _; omega, by go_num, by rw [HMX.out]; exact congrArg _ (by omega), by show _ = _; rw [HMk.out, hmk.out]; rfl, hb9⟩
                      case measure => omega
                | false =>
                  go_wp2_with (fail)
                  go_ret2
                  exact HFO.out _ _ _ (by rw [HG2.out, if_neg (by rw [HMNk.out (by first | rfl | trivial)]; decide)]) hb05
        · have hkN : k < s.length := by have := HK.out; omega
          have hkN' : (k : Int) < (s.length : Int) := by omega
          have c1 := HS2.out wr hb k hkN
          have HIk := HI k hkN wr hb
          have HEk := Lib.hid (HE1.out k hkN)
          generalize (s.getD k []).length = n1 at *
          generalize hz : okL g (s.getD k []) = z at *
          have HZ := Lib.hid hz
          clear HI hz
          cases z with
          | true =>
            go_wp2_with (fail)
            refine HIk.out.mono ?_
            rintro e w4 ⟨rfl, hb4⟩
            go_wp2_with (fail)
            go_roundg gi
            case rel => exact ⟨k + 1, by have := HK.out; show _ = _; omega, by go_num, fun i hi => by
              rcases Nat.lt_or_ge i k with h | h
              · exact hok.out i h
              · rw [show i = k by omega]; exact HZ.out, bl_call hb hb4⟩
            case measure => omega
          | false =>
            go_wp2_with (fail)
            refine HIk.out.mono ?_
            rintro e w4 ⟨rfl, hb4⟩
            go_wp2_with (fail)
            go_ret2
            exact HFO.out _ _ _ (HEk.out (by first | rfl | trivial)) (bl_call hb hb4)
    · have HG : Hid (chkG g row s = (0, 1)) := by show _ = _; unfold chkG volB; rw [hx, decide_eq_false hlen]; rfl
      have hq : ¬ (s.length : Int) = (row.length : Int) := by omega
      generalize chkG g row s = res at *
      clear hlen
      go_enter Try.func45, Try.ntmps45
      go_wp2_with (fail)
      refine HV.out.mono ?_
      rintro e w1 ⟨rfl, hb1⟩
      rw [errB_t]
      go_wp2_with (fail)
      go_ret2
      exact HFO.out _ _ _ HG.out hb1
end Go.Proofs.Ytmmjdabioolodaa
