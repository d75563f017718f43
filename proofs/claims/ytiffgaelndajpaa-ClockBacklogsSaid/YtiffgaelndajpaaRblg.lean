/- What waits after each unit: the specification's. -/
import Derived.Test.YtiffgaelndajpaaBlg
namespace Go.Proofs.Ytiffgaelndajpaa
open Go.RowKit

set_option maxRecDepth 100000 in
set_option maxHeartbeats 4000000 in
theorem rBacklog_c (A : Option Addr) (p : List Int) (c : Nat) (d : Int) (w : World) (hlen : p.length ≤ 100000) (hr : Rd w A (ints p)) :
    Calls Try.prog 43 #[.slice A p.length c, .int .i64 d] w (OutR (blgL p d) (blgE p d) w) := by
  by_cases h60 : 60 < p.length
  · have hE : blgE p d = 1 := by rw [blgE, if_pos h60]
    have hL : blgL p d = [] := by rw [blgL, hE]; rfl
    have h60' : (60 : Int) < (p.length : Int) := by omega
    have HId := fun w => Lib.hid (within_c d 0 60 w)
    rw [hE, hL]
    clear hE hL h60
    go_enter Try.func43, Try.ntmps43
    go_wp2_with (go_at_call 51; refine (HId _).out.mono ?_; rintro e w1 ⟨rfl, rfl⟩)
    go_ret2
    exact ⟨none, 0, rfl, Rd.nil _ _, Below.refl _ _⟩
  · have h60' : ¬ (60 : Int) < (p.length : Int) := by omega
    cases hd : inB d 0 60 with
    | false =>
      have hE : blgE p d = 1 := by rw [blgE, if_neg h60, hd]; rfl
      have hL : blgL p d = [] := by rw [blgL, hE]; rfl
      have HId := fun w => Lib.hid (within_c d 0 60 w)
      rw [hd] at HId
      rw [hE, hL]
      clear hE hL h60 hd
      go_enter Try.func43, Try.ntmps43
      go_wp2_with (go_at_call 51; refine (HId _).out.mono ?_; rintro e w1 ⟨rfl, rfl⟩)
      go_ret2
      exact ⟨none, 0, rfl, Rd.nil _ _, Below.refl _ _⟩
    | true =>
      have HId := fun w => Lib.hid (within_c d 0 60 w)
      rw [hd] at HId
      have hE : blgE p d = if amts p then 0 else 1 := by rw [blgE, if_neg h60, hd]; rfl
      have HE1 : Hid (amts p = true → blgE p d = 0 ∧ blgL p d = blTo p d p.length) := fun h => by
        have e : blgE p d = 0 := by rw [hE, h]; rfl
        exact ⟨e, by rw [blgL, if_pos e]⟩
      have HE2 : Hid (amts p = false → blgE p d = 1 ∧ blgL p d = []) := fun h => by
        have e : blgE p d = 1 := by rw [hE, h]; rfl
        exact ⟨e, by rw [blgL, e]; rfl⟩
      have hdd := inB_z.1 hd
      have HDD := Lib.hid hdd
      obtain ⟨d0, d1⟩ := hdd
      have HBS := Lib.hid (blTo_succ p d)
      have HBL := Lib.hid (blTo_len p d)
      have hp60 : p.length ≤ 60 := by omega
      clear hE hd h60
      go_enter Try.func43, Try.ntmps43
      go_wp2_with (go_at_call 51; refine (HId _).out.mono ?_; rintro e w1 ⟨rfl, rfl⟩)
      go_loopg [6] p.length (fun gk iv wr => ∃ k : Nat, Hid (k + gk = p.length) ∧ iv = .int .i64 (k : Int) ∧ Hid (amts (p.take k) = true) ∧ wr = w)
      case atStart => exact ⟨0, by simp [Hid], rfl, by simp [Hid, amts], rfl⟩
      case round =>
        obtain ⟨k, HK, rfl, HA, rfl⟩ := hrel
        rcases gk with _ | gi
        · obtain rfl : k = p.length := HK.out
          have HAA : Hid (amts p = true) := by have h := HA.out; rwa [List.take_length] at h
          have HF := HE1.out HAA.out
          have HF1 := Lib.hid HF
          clear HF HA
          obtain ⟨wo, rfl⟩ : ∃ wo, wo = wr := ⟨_, rfl⟩
          go_wp2_with (fail)
          go_loopg [7, 8] p.length (fun gk ov' tv wq => ∃ (t : Nat) (ov : Value), ov = ov' ∧ Hid (t + gk = p.length) ∧ tv = .int .i64 (t : Int) ∧ wq.ownsRow wo.heap.size 3 1 ov (blTo p d t).length (ints (blTo p d t)) ∧ Below wo.heap.size wo wq)
          case atStart => exact ⟨0, _, rfl, by simp [Hid], rfl, World.ownsRow_nil _ _ _ _, Below.refl _ _⟩
          case round =>
            obtain ⟨t, ov, rfl, HT, rfl, hown, hb⟩ := hrel
            rcases gk with _ | gi
            · obtain rfl : t = p.length := HT.out
              obtain ⟨A2, c2, rfl⟩ := own_form hown
              go_wp2_with (fail)
              go_ret2
              exact ⟨A2, c2, by rw [HF1.out.1, HF1.out.2]; rfl, by rw [HF1.out.2]; exact (own_rd hown).1, hb⟩
            · have htl : t < p.length := by have := HT.out; omega
              have htl' : (t : Int) < (p.length : Int) := by omega
              have HC : Hid (∀ k, k ≤ t → 0 ≤ p.getD k 0 ∧ p.getD k 0 ≤ 60) := fun k hk => amts_get HAA.out (by omega)
              have HBT := Lib.hid (mxT_bl p d t)
              obtain ⟨wx, rfl⟩ : ∃ wx, wx = wr := ⟨_, rfl⟩
              go_wp2_with (fail)
              go_loopg [9, 10, 11] (t + 1) (fun gk mv sv kv wq => ∃ j : Nat, Hid (j + gk = t + 1) ∧ kv = .int .i64 ((t : Int) - j) ∧ sv = .int .i64 (sfx p d t j) ∧ mv = .int .i64 (mxT p d t j) ∧ wq = wx)
              case atStart => exact ⟨0, by simp [Hid], by simp, rfl, rfl, rfl⟩
              case round =>
                obtain ⟨j, HJ, rfl, rfl, rfl, rfl⟩ := hrel
                rcases gk with _ | gj
                · have hj : j = t + 1 := HJ.out
                  subst hj
                  have hneg : ¬ (0 : Int) ≤ (t : Int) - ((t + 1 : Nat) : Int) := by omega
                  rw [HBT.out]
                  have HUL := Lib.hid (HBL.out t)
                  have HB2 := Lib.hid (HBS.out t)
                  obtain ⟨A4, c4, w4, E4, ho4, hb4, _⟩ := append_int wo.heap.size wr ov (blTo p d t) (blT p d (t + 1)) hown (by rw [HUL.out]; omega) hb.size
                  rw [HUL.out] at E4
                  have F4 := Lib.hid E4
                  rw [← HB2.out] at ho4
                  have hbw4 := hb.trans hb4
                  clear E4 hown
                  go_wp2_with (at_builtin; refine wpList_append_eq rfl _ _ 23 rfl _ _ _ w4 rfl rfl F4.out ?_)
                  go_roundg gi
                  case rel => exact ⟨t + 1, _, rfl, by have := HT.out; show _ = _; omega, by go_num, by rw [HBL.out (t + 1)] at ho4 ⊢; rw [HUL.out] at ho4; exact ho4, hbw4⟩
                  case measure => omega
                · obtain ⟨kk, hkk⟩ : ∃ kk : Nat, kk = t - j := ⟨_, rfl⟩
                  have hjt : j ≤ t := by have := HJ.out; omega
                  have hke : (t : Int) - j = (kk : Int) := by omega
                  have hkl : kk < p.length := by omega
                  have hkl' : (kk : Int) < (p.length : Int) := by omega
                  rw [hke]
                  have HKE := Lib.hid hke
                  obtain ⟨b, o, rfl, _, hcc⟩ := (hr.later hb).at_ (k := kk) (by rw [ints_length]; exact hkl)
                  have hck := hcc kk _ (ints_get hkl)
                  have hx := HC.out kk (by omega)
                  have hs := sfx_range HDD.out HC.out j (by omega)
                  have hm := mxT_range HDD.out HC.out j (by omega)
                  have HS : Hid (sfx p d t (j + 1) = sfx p d t j + (p.getD kk 0 - d)) := by show _ = _; rw [sfx, hkk]
                  have HM : Hid (mxT p d t (j + 1) = max (mxT p d t j) (sfx p d t (j + 1))) := rfl
                  clear hcc hke hkk
                  generalize p.getD kk 0 = x at *
                  obtain ⟨x0, x1⟩ := hx
                  obtain ⟨s0, s1⟩ := hs
                  obtain ⟨m0, m1⟩ := hm
                  have s2 : -100000 ≤ sfx p d t j := by omega
                  have s3 : sfx p d t j ≤ 100000 := by omega
                  clear s0 s1 m1
                  go_wp2_with (fail)
                  all_goals
                    go_roundg gj
                    case rel => exact ⟨j + 1, by have := HJ.out; show _ = _; omega, by have := HKE.out; congr 1; omega, by rw [HS.out], by rw [HM.out, HS.out]; congr 1; omega, rfl⟩
                    case measure => omega
        · have hkl : k < p.length := by have := HK.out; omega
          have hkl' : (k : Int) < (p.length : Int) := by omega
          obtain ⟨b, o, rfl, _, hcc⟩ := hr.at_ (k := k) (by rw [ints_length]; exact hkl)
          have hck := hcc k _ (ints_get hkl)
          have HT := Lib.hid (amts_take hkl)
          rw [HA.out, Bool.true_and] at HT
          have HNO := Lib.hid (@amts_no p k hkl)
          have HIx := fun w => Lib.hid (within_c (p.getD k 0) 0 60 w)
          clear hcc
          generalize p.getD k 0 = x at *
          cases hx : inB x 0 60 with
          | false =>
            have HF1 := Lib.hid (HE2.out (HNO.out hx))
            rw [hx] at HIx
            clear hx HNO HT
            go_wp2_with (go_at_call 51; refine (HIx _).out.mono ?_; rintro e w1 ⟨rfl, rfl⟩)
            go_ret2
            exact ⟨none, 0, by rw [HF1.out.1, HF1.out.2]; rfl, by rw [HF1.out.2]; exact Rd.nil _ _, Below.refl _ _⟩
          | true =>
            rw [hx] at HIx HT
            clear hx HNO
            go_wp2_with (go_at_call 51; refine (HIx _).out.mono ?_; rintro e w1 ⟨rfl, rfl⟩)
            go_roundg gi
            case rel => exact ⟨k + 1, by have := HK.out; show _ = _; omega, by go_num, HT.out, rfl⟩
            case measure => omega
end Go.Proofs.Ytiffgaelndajpaa
