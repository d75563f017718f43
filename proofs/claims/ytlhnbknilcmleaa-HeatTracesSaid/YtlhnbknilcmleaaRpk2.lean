/- The document's Peak. -/
import Derived.Test.YtlhnbknilcmleaaRpeak
namespace Go.Proofs.Ytlhnbknilcmleaa
open Go.RowKit

set_option maxRecDepth 100000 in
set_option maxHeartbeats 2000000 in
theorem rPeak_c (n : Int) (A : Option Addr) (l : List T3) (c : Nat) (w : World) (hlen : l.length ≤ 1000) (hcap : l.length ≤ c) (hr : Rd w A (cellsT l)) :
    Calls Try.prog 23 #[.int .i64 n, .slice A l.length c] w fun e w' => e = .returned (.tuple #[.int .i64 (peakG n l), .int .i64 (validE n l)]) ∧ Below w.heap.size w w' := by
  have HT := Lib.hid (rTrace_c n A l c w hlen hcap hr)
  by_cases hv : validE n l = 0
  · obtain ⟨⟨hn1, hn4⟩, _, hall⟩ := validE_zero.1 hv
    have HG : traceG n l = rowsT n.toNat l l.length := by rw [traceG, if_pos hv]
    have HB : peakG n l = peakTo l l.length := by rw [peakG, if_pos hv]
    rw [hv, HG] at HT
    rw [hv, HB]
    clear HB HG hv
    obtain ⟨m, rfl⟩ : ∃ m : Nat, n = m := ⟨n.toNat, by omega⟩
    rw [Int.toNat_natCast] at HT
    have hpk := Lib.hid (peak_same (m := m) (by omega) (by omega) hall l.length (Nat.le_refl _)).1
    have hrl := Lib.hid (fun k (h : k < l.length) => (by rw [rowsT_get h, rowT_len] : ((rowsT m l l.length).getD k []).length = m))
    have hRl := rowsT_len m l l.length
    have hm4 : m ≤ 4 := by omega
    generalize rowsT m l l.length = RS at *
    clear hall
    go_enter Try.func23, Try.ntmps23
    go_wp2_with (fail)
    refine HT.out.mono ?_
    rintro e w2 ⟨A2, c2, hs, rfl, hrd, ⟨base, htab⟩, hb2⟩
    have HRl := Lib.hid hRl
    rw [hRl]
    clear hRl
    go_wp2_with (fail)
    obtain ⟨wq, hwq⟩ : ∃ wq, wq = w2 := ⟨_, rfl⟩
    rw [← hwq] at hrd htab hb2 ⊢
    clear hwq
    go_loopg [8, 9] l.length (fun gk sv iv wr => ∃ k : Nat, Hid (k + gk = l.length) ∧ iv = .int .i64 (k : Int) ∧ sv = .int .i64 (pkAll RS k) ∧ wr = wq)
    case atStart => exact ⟨0, by simp [Hid], rfl, rfl, rfl⟩
    case round =>
      obtain ⟨k, HK, rfl, rfl, rfl⟩ := hrel
      rcases gk with _ | gi
      · obtain rfl : k = l.length := HK.out
        go_wp2_with (fail)
        go_ret2
        exact ⟨by rw [hpk.out]; rfl, hb2⟩
      · have hkl : k < l.length := by have := HK.out; omega
        have hkl' : (k : Int) < (l.length : Int) := by omega
        have hkR : k < RS.length := by rw [HRl.out]; exact hkl
        obtain ⟨A1, c1, v1, o1⟩ := htab.2 k hkR
        obtain ⟨b, o, rfl, hbl, hc⟩ := hrd.at_ (k := k) (by rw [htab.1]; exact hkR)
        have d1 := hc _ _ v1
        have r1 := (own_rd o1).1
        have hRk := hrl.out k hkl
        have HN : Hid (pkAll RS (k + 1) = pkRow (pkAll RS k) (RS.getD k []) m) := by show _ = _; rw [pkAll, hRk]
        rw [hRk] at d1
        have HRk := Lib.hid hRk
        clear hc v1 o1 hRk
        generalize RS.getD k [] = R at *
        generalize pkAll RS k = s at *
        have HD1 := Lib.hid d1
        go_wp2_with (fail)
        go_loopg [8, 10] m (fun gj sv jv wr' => ∃ j : Nat, Hid (j + gj = m) ∧ jv = .int .i64 (j : Int) ∧ sv = .int .i64 (pkRow s R j) ∧ wr' = wr)
        case atStart => exact ⟨0, by simp [Hid], rfl, rfl, rfl⟩
        case round =>
          obtain ⟨j, HJ, rfl, rfl, hww⟩ := hrel
          subst hww
          rcases gk with _ | gi2
          · obtain rfl : j = m := HJ.out
            go_wp2_with (fail)
            go_roundg gi
            case rel => exact ⟨k + 1, by have := HK.out; show _ = _; omega, by go_num, by rw [HN.out], rfl⟩
            case measure => omega
          · have hjm : j < m := by have := HJ.out; omega
            have hjm' : (j : Int) < (m : Int) := by omega
            have hjR : j < R.length := by rw [HRk.out]; exact hjm
            obtain ⟨b1, o1, rfl, _, hc1⟩ := r1.at_ (k := j) (by rw [ints_length]; exact hjR)
            have d2 := hc1 _ _ (ints_get hjR)
            have HN2 : Hid (pkRow s R (j + 1) = max (pkRow s R j) (R.getD j 0)) := rfl
            clear hc1 hjR
            generalize pkRow s R j = s2 at *
            generalize R.getD j 0 = x at *
            go_wp2_with (fail)
            all_goals
              go_roundg gi2
              case rel => exact ⟨j + 1, by have := HJ.out; show _ = _; omega, by go_num, by rw [HN2.out]; congr 1; omega, rfl⟩
              case measure => omega
  · have HG : traceG n l = [] := by rw [traceG, if_neg hv]
    have HB : peakG n l = 0 := by rw [peakG, if_neg hv]
    have hv' : (validE n l != 0) = true := by simpa using hv
    rw [HG] at HT
    rw [HB]
    clear HB HG
    generalize validE n l = ev at *
    go_enter Try.func23, Try.ntmps23
    go_wp2_with (fail)
    refine HT.out.mono ?_
    rintro e w2 ⟨A2, c2, hs, rfl, hrd, ⟨base, htab⟩, hb2⟩
    go_wp2_with (fail)
    go_ret2
    exact ⟨rfl, hb2⟩
end Go.Proofs.Ytlhnbknilcmleaa
