/- Demands of stretches, and which ones are crowded: package clock's and the specification's. -/
import Derived.Test.YtiffgaelndajpaaJob
namespace Go.Proofs.Ytiffgaelndajpaa
open Go.RowKit

theorem dem_next {l : List T3} (hj : Jobs l) (hlen : l.length ≤ 1000) (a b : Int) {k : Nat} (hk : k < l.length) :
    (inS a b (l.getD k t0) = true → wrap64 (demTo l a b k + (l.getD k t0).2.2) = demTo l a b (k + 1)) ∧ (inS a b (l.getD k t0) = false → demTo l a b k = demTo l a b (k + 1)) := by
  have h1 := demTo_range hj a b (k := k) (by omega)
  have h2 := (hj.get hk).n0
  have h3 := (hj.get hk).n1
  constructor
  · intro h
    rw [demTo_succ, h, if_pos rfl]
    exact IntWalk.wrap64_in _ ⟨by omega, by omega⟩
  · intro h
    rw [demTo_succ, h]; simp

set_option maxRecDepth 100000 in
set_option maxHeartbeats 1000000 in
theorem demandOf_c (A : Option Addr) (l : List T3) (cap : Nat) (a b : Int) (w : World) (hlen : l.length ≤ 1000) (hj : Jobs l) (hr : Rd w A (cellsT l)) :
    Calls Try.prog 63 #[.slice A l.length cap, .int .i64 a, .int .i64 b] w fun e w' => e = .returned (.int .i64 (dem l a b)) ∧ Below w.heap.size w w' := by
  have HD : Hid (dem l a b = demTo l a b l.length) := rfl
  have HN := Lib.hid (fun k (h : k < l.length) => @dem_next l hj hlen a b k h)
  go_enter Try.func63, Try.ntmps63
  go_wp2_with (fail)
  go_loopg [7, 12] l.length (fun gk dv iv wr => ∃ k : Nat, Hid (k + gk = l.length) ∧ iv = .int .i64 (k : Int) ∧ dv = .int .i64 (demTo l a b k) ∧ Below w.heap.size w wr)
  case atStart => exact ⟨0, by simp [Hid], rfl, rfl, Below.refl _ _⟩
  case round =>
    obtain ⟨k, HK, rfl, rfl, hb⟩ := hrel
    rcases gk with _ | gi
    · obtain rfl : k = l.length := HK.out
      go_wp2_with (fail)
      go_ret
      exact ⟨ret_i HD.out, hb⟩
    · have hlt : k < l.length := by have := HK.out; omega
      have hlt' : (k : Int) < (l.length : Int) := by omega
      obtain ⟨b', o, rfl, hbl, c0, c1, c2⟩ := (hr.later hb).tri hlt
      have H1 := Lib.hid (HN.out k hlt).1
      have H2 := Lib.hid (HN.out k hlt).2
      generalize l.getD k t0 = g at c0 c1 c2 H1 H2
      obtain ⟨g0, g1, g2⟩ := g
      simp only [] at c0 c1 c2 H1 H2
      have hba := bl_alloc hb (.cells #[.int .i64 g0, .int .i64 g1, .int .i64 g2] 40)
      by_cases h1 : a ≤ g0
      · by_cases h2 : g1 ≤ b
        · have H3 := H1.out (inS_z.2 ⟨h1, h2⟩)
          clear H1 H2
          go_wp2_with (fail)
          go_roundg gi
          case rel => exact ⟨k + 1, by have := HK.out; show _ = _; omega, by go_num, by rw [H3], hba⟩
          case measure => omega
        · have H3 := Lib.hid (H2.out (by simp [inS, h2]))
          clear H1 H2
          go_wp2_with (fail)
          go_roundg gi
          case rel => exact ⟨k + 1, by have := HK.out; show _ = _; omega, by go_num, by rw [H3.out], hba⟩
          case measure => omega
      · have H3 := Lib.hid (H2.out (by simp [inS, h1]))
        clear H1 H2
        go_wp2_with (fail)
        go_roundg gi
        case rel => exact ⟨k + 1, by have := HK.out; show _ = _; omega, by go_num, by rw [H3.out], hba⟩
        case measure => omega
set_option maxRecDepth 100000 in
set_option maxHeartbeats 1000000 in
theorem rdemand_c (A : Option Addr) (l : List T3) (cap : Nat) (a b : Int) (w : World) (hlen : l.length ≤ 1000) (hj : Jobs l) (hr : Rd w A (cellsT l)) :
    Calls Try.prog 65 #[.slice A l.length cap, .int .i64 a, .int .i64 b] w fun e w' => e = .returned (.int .i64 (dem l a b)) ∧ Below w.heap.size w w' := by
  have HD : Hid (dem l a b = demTo l a b l.length) := rfl
  have HN := Lib.hid (fun k (h : k < l.length) => @dem_next l hj hlen a b k h)
  go_enter Try.func65, Try.ntmps65
  go_wp2_with (fail)
  go_loopg [7, 8] l.length (fun gk dv iv wr => ∃ k : Nat, Hid (k + gk = l.length) ∧ iv = .int .i64 (k : Int) ∧ dv = .int .i64 (demTo l a b k) ∧ Below w.heap.size w wr)
  case atStart => exact ⟨0, by simp [Hid], rfl, rfl, Below.refl _ _⟩
  case round =>
    obtain ⟨k, HK, rfl, rfl, hb⟩ := hrel
    rcases gk with _ | gi
    · obtain rfl : k = l.length := HK.out
      go_wp2_with (fail)
      go_ret
      exact ⟨ret_i HD.out, hb⟩
    · have hlt : k < l.length := by have := HK.out; omega
      have hlt' : (k : Int) < (l.length : Int) := by omega
      obtain ⟨b', o, rfl, hbl, c0, c1, c2⟩ := (hr.later hb).tri hlt
      have H1 := Lib.hid (HN.out k hlt).1
      have H2 := Lib.hid (HN.out k hlt).2
      generalize l.getD k t0 = g at c0 c1 c2 H1 H2
      obtain ⟨g0, g1, g2⟩ := g
      simp only [] at c0 c1 c2 H1 H2
      by_cases h1 : a ≤ g0
      · by_cases h2 : g1 ≤ b
        · have H3 := H1.out (inS_z.2 ⟨h1, h2⟩)
          clear H1 H2
          go_wp2_with (fail)
          go_roundg gi
          case rel => exact ⟨k + 1, by have := HK.out; show _ = _; omega, by go_num, by rw [H3], hb⟩
          case measure => omega
        · have H3 := Lib.hid (H2.out (by simp [inS, h2]))
          clear H1 H2
          go_wp2_with (fail)
          go_roundg gi
          case rel => exact ⟨k + 1, by have := HK.out; show _ = _; omega, by go_num, by rw [H3.out], hb⟩
          case measure => omega
      · have H3 := Lib.hid (H2.out (by simp [inS, h1]))
        clear H1 H2
        go_wp2_with (fail)
        go_roundg gi
        case rel => exact ⟨k + 1, by have := HK.out; show _ = _; omega, by go_num, by rw [H3.out], hb⟩
        case measure => omega

theorem isCrowded_c (A : Option Addr) (l : List T3) (cap : Nat) (a b : Int) (w : World) (hab : -1000 ≤ a ∧ a ≤ 1000 ∧ -1000 ≤ b ∧ b ≤ 1000) (hlen : l.length ≤ 1000) (hj : Jobs l) (hr : Rd w A (cellsT l)) :
    Calls Try.prog 66 #[.slice A l.length cap, .int .i64 a, .int .i64 b] w fun e w' => e = .returned (.bool (decide (b - a < dem l a b))) ∧ Below w.heap.size w w' := by
  have HD := Lib.hid (demandOf_c A l cap a b w hlen hj hr)
  obtain ⟨a0, a1, b0, b1⟩ := hab
  generalize dem l a b = D at *
  by_cases h : b - a < D
  · go_enter Try.func66, Try.ntmps66
    go_wp2_with (go_at_call 63; refine HD.out.mono ?_; rintro e w1 ⟨rfl, hb1⟩)
    go_ret
    refine ⟨?_, hb1⟩
    first | rfl | exact ret_b (by simp [h]) | exact ret_b rfl
  · go_enter Try.func66, Try.ntmps66
    go_wp2_with (go_at_call 63; refine HD.out.mono ?_; rintro e w1 ⟨rfl, hb1⟩)
    go_ret
    exact ⟨ret_b (by simp <;> omega), hb1⟩

def demG (l : List T3) (a b : Int) : Int := if strE l a b = 0 then dem l a b else 0
def crwE (l : List T3) (a b : Int) : Int := if strE l a b = 0 then (if b - a < dem l a b then 0 else 7) else strE l a b
theorem Demand_c (A : Option Addr) (l : List T3) (cap : Nat) (a b : Int) (w : World) (hlen : l.length ≤ 1000) (hr : Rd w A (cellsT l)) :
    Calls Try.prog 32 #[.slice A l.length cap, .int .i64 a, .int .i64 b] w fun e w' => e = .returned (.tuple #[.int .i64 (demG l a b), .int .i64 (strE l a b)]) ∧ Below w.heap.size w w' := by
  have HV := Lib.hid (validateIn_c A l cap a b w hlen hr)
  by_cases hv : strE l a b = 0
  · have hj := (validE_ok.1 (strE_zero.1 hv).1).jobs
    have HB : demG l a b = dem l a b := by rw [demG, if_pos hv]
    have HD := fun w h => Lib.hid (demandOf_c A l cap a b w hlen hj h)
    rw [hv] at HV
    rw [HB, hv]
    clear HB hv hj
    generalize dem l a b = D at *
    go_enter Try.func32, Try.ntmps32
    go_wp2_with (go_at_call 62; refine HV.out.mono ?_; rintro e w1 ⟨rfl, hb1⟩)
    refine (HD _ (hr.later hb1)).out.mono ?_
    rintro e w2 ⟨rfl, hb2⟩
    go_wp2_with (fail)
    go_ret2
    exact ⟨rfl, bl_call hb1 hb2⟩
  · have HB : demG l a b = 0 := by rw [demG, if_neg hv]
    have hv' : (strE l a b != 0) = true := by simpa using hv
    rw [HB]
    clear HB
    generalize strE l a b = ev at *
    go_enter Try.func32, Try.ntmps32
    go_wp2_with (go_at_call 62; refine HV.out.mono ?_; rintro e w1 ⟨rfl, hb1⟩)
    go_ret2
    exact ⟨rfl, hb1⟩
theorem rDemand_c (A : Option Addr) (l : List T3) (cap : Nat) (a b : Int) (w : World) (hlen : l.length ≤ 1000) (hr : Rd w A (cellsT l)) :
    Calls Try.prog 33 #[.slice A l.length cap, .int .i64 a, .int .i64 b] w fun e w' => e = .returned (.tuple #[.int .i64 (demG l a b), .int .i64 (strE l a b)]) ∧ Below w.heap.size w w' := by
  have HV := Lib.hid (rstretch_c A l cap a b w hlen hr)
  by_cases hv : strE l a b = 0
  · have hj := (validE_ok.1 (strE_zero.1 hv).1).jobs
    have HB : demG l a b = dem l a b := by rw [demG, if_pos hv]
    have HD := fun w h => Lib.hid (rdemand_c A l cap a b w hlen hj h)
    rw [hv] at HV
    rw [HB, hv]
    clear HB hv hj
    generalize dem l a b = D at *
    go_enter Try.func33, Try.ntmps33
    go_wp2_with (go_at_call 64; refine HV.out.mono ?_; rintro e w1 ⟨rfl, hb1⟩)
    refine (HD _ (hr.later hb1)).out.mono ?_
    rintro e w2 ⟨rfl, hb2⟩
    go_wp2_with (fail)
    go_ret2
    exact ⟨rfl, bl_call hb1 hb2⟩
  · have HB : demG l a b = 0 := by rw [demG, if_neg hv]
    have hv' : (strE l a b != 0) = true := by simpa using hv
    rw [HB]
    clear HB
    generalize strE l a b = ev at *
    go_enter Try.func33, Try.ntmps33
    go_wp2_with (go_at_call 64; refine HV.out.mono ?_; rintro e w1 ⟨rfl, hb1⟩)
    go_ret2
    exact ⟨rfl, hb1⟩
theorem crwE_cases (l : List T3) (a b : Int) : (strE l a b ≠ 0 ∧ crwE l a b = strE l a b) ∨ (strE l a b = 0 ∧ b - a < dem l a b ∧ crwE l a b = 0) ∨ (strE l a b = 0 ∧ dem l a b ≤ b - a ∧ crwE l a b = 7) := by
  by_cases hv : strE l a b = 0
  · by_cases h : b - a < dem l a b
    · exact .inr (.inl ⟨hv, h, by rw [crwE, if_pos hv, if_pos h]⟩)
    · exact .inr (.inr ⟨hv, by omega, by rw [crwE, if_pos hv, if_neg h]⟩)
  · exact .inl ⟨hv, by rw [crwE, if_neg hv]⟩
theorem CheckCrowded_c (A : Option Addr) (l : List T3) (cap : Nat) (a b : Int) (w : World) (hlen : l.length ≤ 1000) (hr : Rd w A (cellsT l)) :
    Calls Try.prog 34 #[.slice A l.length cap, .int .i64 a, .int .i64 b] w fun e w' => e = .returned (.int .i64 (crwE l a b)) ∧ Below w.heap.size w w' := by
  have HV := Lib.hid (validateIn_c A l cap a b w hlen hr)
  by_cases hv : strE l a b = 0
  · obtain ⟨hva, h0, h1, h2⟩ := strE_zero.1 hv
    have hj := (validE_ok.1 hva).jobs
    have HD := fun w h => Lib.hid (isCrowded_c A l cap a b w ⟨by omega, by omega, by omega, by omega⟩ hlen hj h)
    rw [hv] at HV
    rcases crwE_cases l a b with ⟨h3, _⟩ | ⟨_, h3, h4⟩ | ⟨_, h3, h4⟩
    · exact absurd hv h3
    · rw [h4]
      rw [decide_eq_true h3] at HD
      clear h3 h4 hv hva hj h0 h1 h2
      go_enter Try.func34, Try.ntmps34
      go_wp2_with (go_at_call 62; refine HV.out.mono ?_; rintro e w1 ⟨rfl, hb1⟩)
      refine (HD _ (hr.later hb1)).out.mono ?_
      rintro e w2 ⟨rfl, hb2⟩
      go_wp2_with (fail)
      go_ret
      exact ⟨rfl, bl_call hb1 hb2⟩
    · rw [h4]
      rw [decide_eq_false (show ¬ b - a < dem l a b by omega)] at HD
      clear h3 h4 hv hva hj h0 h1 h2
      go_enter Try.func34, Try.ntmps34
      go_wp2_with (go_at_call 62; refine HV.out.mono ?_; rintro e w1 ⟨rfl, hb1⟩)
      refine (HD _ (hr.later hb1)).out.mono ?_
      rintro e w2 ⟨rfl, hb2⟩
      go_wp2_with (fail)
      go_ret
      exact ⟨rfl, bl_call hb1 hb2⟩
  · have HB : crwE l a b = strE l a b := by rw [crwE, if_neg hv]
    have hv' : (strE l a b != 0) = true := by simpa using hv
    rw [HB]
    clear HB
    generalize strE l a b = ev at *
    go_enter Try.func34, Try.ntmps34
    go_wp2_with (go_at_call 62; refine HV.out.mono ?_; rintro e w1 ⟨rfl, hb1⟩)
    go_ret
    exact ⟨rfl, hb1⟩
theorem rCheckCrowded_c (A : Option Addr) (l : List T3) (cap : Nat) (a b : Int) (w : World) (hlen : l.length ≤ 1000) (hr : Rd w A (cellsT l)) :
    Calls Try.prog 35 #[.slice A l.length cap, .int .i64 a, .int .i64 b] w fun e w' => e = .returned (.int .i64 (crwE l a b)) ∧ Below w.heap.size w w' := by
  have HV := Lib.hid (rstretch_c A l cap a b w hlen hr)
  by_cases hv : strE l a b = 0
  · obtain ⟨hva, h0, h1, h2⟩ := strE_zero.1 hv
    have hj := (validE_ok.1 hva).jobs
    have HD := fun w h => Lib.hid (rdemand_c A l cap a b w hlen hj h)
    have HC := Lib.hid (crwE_cases l a b)
    rw [hv] at HV HC
    generalize dem l a b = D at *
    generalize crwE l a b = E at *
    rcases HC.out with ⟨h3, _⟩ | ⟨_, h3, rfl⟩ | ⟨_, h3, rfl⟩
    · exact absurd rfl h3
    all_goals
      clear hv hva hj HC
      go_enter Try.func35, Try.ntmps35
      go_wp2_with (go_at_call 64; refine HV.out.mono ?_; rintro e w1 ⟨rfl, hb1⟩)
      refine (HD _ (hr.later hb1)).out.mono ?_
      rintro e w2 ⟨rfl, hb2⟩
      go_wp2_with (fail)
      go_ret
      exact ⟨rfl, bl_call hb1 hb2⟩
  · have HB : crwE l a b = strE l a b := by rw [crwE, if_neg hv]
    have hv' : (strE l a b != 0) = true := by simpa using hv
    rw [HB]
    clear HB
    generalize strE l a b = ev at *
    go_enter Try.func35, Try.ntmps35
    go_wp2_with (go_at_call 64; refine HV.out.mono ?_; rintro e w1 ⟨rfl, hb1⟩)
    go_ret
    exact ⟨rfl, hb1⟩
end Go.Proofs.Ytiffgaelndajpaa
