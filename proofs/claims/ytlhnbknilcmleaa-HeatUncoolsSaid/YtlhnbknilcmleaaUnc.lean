/- Plans without their coolings: package heat's and the document's; how many coolings they want. -/
import Derived.Test.YtlhnbknilcmleaaDelF
import Derived.Test.YtlhnbknilcmleaaHeatN
namespace Go.Proofs.Ytlhnbknilcmleaa
open Go.RowKit

def uncG (n : Int) (l : List T3) : List T3 := if validE n l = 0 then uncL l else []
theorem uncG_len (n : Int) (l : List T3) : (uncG n l).length ≤ l.length := by
  rw [uncG]; split
  · exact uncL_len l
  · simp
theorem ins_unc {l : List T3} (ha : Acts l) : ∀ k, k ≤ l.length → ∃ e, Ins (uncL (l.take k)) (l.take k) e
  | 0, _ => ⟨_, by simpa [uncL] using Ins.none⟩
  | k + 1, hk => by
    have hk' : k < l.length := by omega
    obtain ⟨e, ih⟩ := ins_unc ha k (by omega)
    have hx := ha.get hk'
    have ht : l.take (k + 1) = l.take k ++ [l.getD k t0] := by rw [List.take_succ_eq_append_getElem hk']; simp [hk']
    rw [uncL_succ hk', ht]
    generalize l.getD k t0 = x at hx
    by_cases h : x.1 = 2
    · have hx2 : x = (2, x.2.1, 0) := by
        obtain ⟨a, b, c⟩ := x
        simp only [] at h ⊢
        have := hx.hc h
        simp only [] at this
        rw [h, this]
      rw [h, hx2]
      exact ⟨_, Ins.cool x.2.1 ih⟩
    · have q : (x.1 == 2) = false := by simpa using h
      rw [q]
      exact ⟨e, Ins.keep x ih⟩
theorem unc_acts {l : List T3} (h : Acts l) : Acts (uncL l) := fun a ha => h a ((List.mem_filter.1 ha).1)
theorem unc_few {l : List T3} (ha : Acts l) (lim : Int) : few lim l ≤ few lim (uncL l) ∧ few lim (uncL l) + (uncL l).length ≤ few lim l + l.length := by
  obtain ⟨e, h⟩ := ins_unc ha l.length (Nat.le_refl _)
  rw [List.take_length] at h
  obtain ⟨h1, h2⟩ := few_ins (lim := lim) h (unc_acts ha) ha
  have := uncL_len l
  exact ⟨h2, by omega⟩
theorem unc_valid {n : Int} {l : List T3} (h : validE n l = 0) : validE n (uncL l) = 0 := by
  obtain ⟨h1, h2, h3⟩ := validE_zero.1 h
  have := uncL_len l
  refine validE_zero.2 ⟨h1, by omega, ?_⟩
  rw [List.all_eq_true] at h3 ⊢
  exact fun a ha => h3 a ((List.mem_filter.1 ha).1)

set_option maxRecDepth 100000 in
theorem Uncool_c (n : Int) (A : Option Addr) (l : List T3) (c : Nat) (w : World) (hlen : l.length ≤ 1000) (hr : Rd w A (cellsT l)) :
    Calls Try.prog 49 #[.int .i64 n, .slice A l.length c] w (OutT 61 (uncG n l) (validE n l) w) := by
  have HV := Lib.hid (validate_c n A l c w hlen hr)
  by_cases h1 : validE n l = 0
  · have hG : uncG n l = uncL l := by rw [uncG, if_pos h1]
    have HC := fun w1 h => Lib.hid (cloneA_c A l c w1 hlen h)
    have HD := fun base A c w1 h1 h2 => Lib.hid (deleteA_c base A l c w1 hlen h1 h2)
    rw [h1] at HV
    rw [h1, hG]
    clear h1 hG
    go_enter Try.func49, Try.ntmps49
    go_wp2_with (go_at_call 24; refine HV.out.mono ?_; rintro e w1 ⟨rfl, hb1⟩)
    refine (HC _ (hr.later hb1)).out.mono ?_
    rintro e w2 ⟨A2, c2, rfl, ho2, hb2⟩
    go_wp2_with (fail)
    refine (HD _ _ _ _ hb2.size ho2).out.mono ?_
    rintro e w3 ⟨A3, c3, rfl, ho3, hb3⟩
    go_wp2_with (fail)
    go_ret2
    exact ⟨A3, c3, rfl, own_base ho3 hb1.size, bl_call hb1 (hb2.trans hb3)⟩
  · have hv' : (validE n l != 0) = true := by simpa using h1
    have hG : uncG n l = [] := by rw [uncG, if_neg h1]
    rw [hG]
    clear hG
    generalize validE n l = ev at *
    go_enter Try.func49, Try.ntmps49
    go_wp2_with (go_at_call 24; refine HV.out.mono ?_; rintro e w1 ⟨rfl, hb1⟩)
    go_ret2
    exact ⟨none, 0, rfl, World.ownsRow_nil _ _ _ _, hb1⟩

set_option maxRecDepth 100000 in
set_option maxHeartbeats 1000000 in
theorem rUncool_c (n : Int) (A : Option Addr) (l : List T3) (c : Nat) (w : World) (hlen : l.length ≤ 1000) (hr : Rd w A (cellsT l)) :
    Calls Try.prog 50 #[.int .i64 n, .slice A l.length c] w (OutT 61 (uncG n l) (validE n l) w) := by
  have HV := Lib.hid (rvalidate_c n A l c w hlen hr)
  by_cases h1 : validE n l = 0
  · have hG : uncG n l = uncL l := by rw [uncG, if_pos h1]
    rw [h1] at HV
    rw [h1, hG]
    clear h1 hG
    go_enter Try.func50, Try.ntmps50
    go_wp2_with (go_at_call 25; refine HV.out.mono ?_; rintro e w1 ⟨rfl, hb1⟩)
    go_loopg [7, 8] l.length (fun gk v iv wr => ∃ k : Nat, Hid (k + gk = l.length) ∧ iv = .int .i64 (k : Int) ∧ wr.ownsRow w.heap.size 61 3 v (uncL (l.take k)).length (cellsT (uncL (l.take k))) ∧ Below w.heap.size w wr)
    case atStart => exact ⟨0, by simp [Hid], rfl, World.ownsRow_nil _ _ _ _, hb1⟩
    case round =>
      obtain ⟨k, HK, rfl, hown, hb⟩ := hrel
      rcases gk with _ | gi
      · obtain rfl : k = l.length := HK.out
        obtain ⟨A', c', rfl⟩ := own_form hown
        rw [List.take_length] at hown
        have hte : Hid (l.take l.length = l) := List.take_length
        rw [hte.out]
        go_wp2_with (fail)
        go_ret2
        exact ⟨A', c', rfl, hown, hb⟩
      · have hkl : k < l.length := by have := HK.out; omega
        have hkl' : (k : Int) < (l.length : Int) := by omega
        obtain ⟨b, o, rfl, _, c0, c1, c2⟩ := (hr.later hb).tri hkl
        have HN := Lib.hid (uncL_succ hkl)
        have hfl := unc_take l k
        generalize l.getD k t0 = g at c0 c1 c2 HN
        generalize uncL (l.take k) = L at hown HN hfl
        obtain ⟨g0, g1, g2⟩ := g
        simp only [] at c0 c1 c2 HN
        by_cases hi : g0 = 2
        · have q1 : (g0 != 2) = false := by simpa using hi
          have q2 : (g0 == 2) = true := by simpa using hi
          have HX : Hid (uncL (l.take (k + 1)) = L) := by show _ = _; rw [HN.out, q2]; rfl
          clear q2 hi
          go_wp2_with (fail)
          go_roundg gi
          case rel => exact ⟨k + 1, by have := HK.out; show _ = _; omega, by go_num, by rw [HX.out]; exact hown, hb⟩
          case measure => omega
        · have q1 : (g0 != 2) = true := by simpa using hi
          have q2 : (g0 == 2) = false := by simpa using hi
          have HX : Hid (uncL (l.take (k + 1)) = L ++ [(g0, g1, g2)]) := by show _ = _; rw [HN.out, q2]; rfl
          obtain ⟨A3, c3, W3, E3, ho3, hb3, _⟩ := append_three w.heap.size 22 61 act_info Try.underlying22 wr u7 L (g0, g1, g2) hown (by omega) hb.size
          have HE3 := Lib.hid E3
          clear E3 hi q2
          go_wp2_with (at_builtin; refine wpList_append_eq rfl _ _ 22 rfl _ _ _ W3 rfl rfl HE3.out ?_)
          have hb4 := hb.trans hb3
          go_wp2_with (fail)
          go_roundg gi
          case rel => exact ⟨k + 1, by have := HK.out; show _ = _; omega, by go_num, by rw [HX.out]; exact ho3, hb4⟩
          case measure => omega
  · have hv' : (validE n l != 0) = true := by simpa using h1
    have hG : uncG n l = [] := by rw [uncG, if_neg h1]
    rw [hG]
    clear hG
    generalize validE n l = ev at *
    go_enter Try.func50, Try.ntmps50
    go_wp2_with (go_at_call 25; refine HV.out.mono ?_; rintro e w1 ⟨rfl, hb1⟩)
    go_ret2
    exact ⟨none, 0, rfl, World.ownsRow_nil _ _ _ _, hb1⟩
end Go.Proofs.Ytlhnbknilcmleaa
