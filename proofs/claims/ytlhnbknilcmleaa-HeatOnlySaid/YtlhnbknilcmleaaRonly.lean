/- The document's Only. -/
import Derived.Test.YtlhnbknilcmleaaOnly
namespace Go.Proofs.Ytlhnbknilcmleaa
open Go.RowKit

set_option maxRecDepth 100000 in
set_option maxHeartbeats 2000000 in
theorem rOnly_c (n : Int) (A : Option Addr) (l : List T3) (c : Nat) (ion : Int) (w : World) (hlen : l.length ≤ 1000) (hr : Rd w A (cellsT l)) :
    Calls Try.prog 45 #[.int .i64 n, .slice A l.length c, .int .i64 ion] w (OutT 61 (onlyG n l ion) (onlyE n l ion) w) := by
  have HV := Lib.hid (rvalidate_c n A l c w hlen hr)
  have HO := fun w => Lib.hid (within_c ion 0 (n - 1) w)
  rw [← oneB_inB] at HO
  rcases onlyE_cases n l ion with ⟨h1, h2, h3⟩ | ⟨h1, h2, h3, h4⟩ | ⟨h1, h2, h3, h4⟩
  · have hv' : (validE n l != 0) = true := by simpa using h1
    rw [h2, h3]
    clear h2 h3
    generalize validE n l = ev at *
    go_enter Try.func45, Try.ntmps45
    go_wp2_with (go_at_call 25; refine HV.out.mono ?_; rintro e w1 ⟨rfl, hb1⟩)
    go_ret2
    exact ⟨none, 0, rfl, World.ownsRow_nil _ _ _ _, hb1⟩
  · obtain ⟨hn1, hn4⟩ := (validE_zero.1 h1).1
    rw [h1] at HV
    rw [h2] at HO
    rw [h3, h4]
    clear h1 h2 h3 h4
    go_enter Try.func45, Try.ntmps45
    go_wp2_with (first | (go_at_call 25; refine HV.out.mono ?_; rintro e w1 ⟨rfl, hb1⟩) | (go_at_call 59; refine (HO _).out.mono ?_; rintro e w2 ⟨rfl, rfl⟩))
    go_ret2
    exact ⟨none, 0, rfl, World.ownsRow_nil _ _ _ _, hb1⟩
  · obtain ⟨hn1, hn4⟩ := (validE_zero.1 h1).1
    rw [h1] at HV
    rw [h2] at HO
    rw [h3, h4]
    clear h1 h2 h3 h4
    have HL := only_len
    go_enter Try.func45, Try.ntmps45
    go_wp2_with (first | (go_at_call 25; refine HV.out.mono ?_; rintro e w1 ⟨rfl, hb1⟩) | (go_at_call 59; refine (HO _).out.mono ?_; rintro e w2 ⟨rfl, rfl⟩))
    go_loopg [9, 10] l.length (fun gk v iv wr => ∃ k : Nat, Hid (k + gk = l.length) ∧ iv = .int .i64 (k : Int) ∧ wr.ownsRow w.heap.size 61 3 v (onlyL (l.take k) ion).length (cellsT (onlyL (l.take k) ion)) ∧ Below w.heap.size w wr)
    case atStart => exact ⟨0, by simp [Hid], rfl, World.ownsRow_nil _ _ _ _, hb1⟩
    case round =>
      obtain ⟨k, HK, rfl, hown, hb⟩ := hrel
      rcases gk with _ | gi
      · obtain rfl : k = l.length := HK.out
        obtain ⟨A', c', rfl⟩ := own_form hown
        rw [List.take_length] at hown
        have hte : Hid (l.take l.length = l) := List.take_length
        rw [hte.out]
        go_wp2_with (fail)
        go_ret2
        exact ⟨A', c', rfl, hown, hb⟩
      · have hkl : k < l.length := by have := HK.out; omega
        have hkl' : (k : Int) < (l.length : Int) := by omega
        obtain ⟨b, o, rfl, _, c0, c1, c2⟩ := (hr.later hb).tri hkl
        have HN := Lib.hid (only_succ ion hkl)
        have hfl := HL (l.take k) ion
        rw [List.length_take] at hfl
        have hfl2 : (onlyL (l.take k) ion).length ≤ 1000 := by omega
        clear hfl
        generalize l.getD k t0 = g at c0 c1 c2 HN
        generalize onlyL (l.take k) ion = L at hown HN hfl2
        obtain ⟨g0, g1, g2⟩ := g
        simp only [] at c0 c1 c2 HN
        by_cases hi : g1 = ion
        · have HX : Hid (onlyL (l.take (k + 1)) ion = L ++ [(g0, g1, g2)]) := by show _ = _; rw [HN.out, if_pos hi]
          have q1 : (g1 == ion) = true := by simpa using hi
          obtain ⟨A3, c3, W3, E3, ho3, hb3, _⟩ := append_three w.heap.size 22 61 act_info Try.underlying22 wr u9 L (g0, g1, g2) hown (by omega) hb.size
          have HE3 := Lib.hid E3
          clear E3 hi
          go_wp2_with (at_builtin; refine wpList_append_eq rfl _ _ 22 rfl _ _ _ W3 rfl rfl HE3.out ?_)
          have hb4 := hb.trans hb3
          go_wp2_with (fail)
          go_roundg gi
          case rel => exact ⟨k + 1, by have := HK.out; show _ = _; omega, by go_num, by rw [HX.out]; exact ho3, hb4⟩
          case measure => omega
        · have HX : Hid (onlyL (l.take (k + 1)) ion = L) := by show _ = _; rw [HN.out, if_neg hi]
          have q1 : (g1 == ion) = false := by simpa using hi
          go_wp2_with (fail)
          go_roundg gi
          case rel => exact ⟨k + 1, by have := HK.out; show _ = _; omega, by go_num, by rw [HX.out]; exact hown, hb⟩
          case measure => omega
end Go.Proofs.Ytlhnbknilcmleaa
