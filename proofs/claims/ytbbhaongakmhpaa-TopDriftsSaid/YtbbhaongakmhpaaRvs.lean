/- slices.Reverse at readings of a call's own. -/
import Derived.Test.YtbbhaongakmhpaaRowR
import Derived.Shelf.RegionOpenPlain
namespace Go.Proofs.Ytbbhaongakmhpaa
open Go.RowKit

/-- From l, turned round as far as k. -/
def Rv (l : List T3) (k : Nat) (M : List T3) : Prop := M.length = l.length ∧ ∀ p, p < l.length → M.getD p t0 = if p < k ∨ l.length - 1 - p < k then l.getD (l.length - 1 - p) t0 else l.getD p t0
theorem rv_zero (l : List T3) : Rv l 0 l := ⟨rfl, fun p hp => by rw [if_neg (by omega)]⟩
theorem rv_end {l M : List T3} {k : Nat} (h : Rv l k M) (hk : ¬ (k : Int) < (l.length : Int) - 1 - (k : Int)) : M = l.reverse := by
  obtain ⟨h1, h2⟩ := h
  refine List.ext_getElem (by simp [h1]) fun p hp hp' => ?_
  have hp2 : p < l.length := by omega
  have := h2 p hp2
  have e1 : M.getD p t0 = M[p] := by simp [hp]
  rw [e1] at this
  rw [this, List.getElem_reverse]
  by_cases hc : p < k ∨ l.length - 1 - p < k
  · rw [if_pos hc]; simp [show l.length - 1 - p < l.length by omega]
  · rw [if_neg hc]
    have : l.length - 1 - p = p := by omega
    simp [this, hp2]
theorem rv_next {l M : List T3} {k : Nat} (h : Rv l k M) (hk : (k : Int) < (l.length : Int) - 1 - (k : Int)) : Rv l (k + 1) ((M.set k (M.getD (l.length - 1 - k) t0)).set (l.length - 1 - k) (M.getD k t0)) := by
  obtain ⟨h1, h2⟩ := h
  refine ⟨by simp [h1], fun p hp => ?_⟩
  have a := h2 (l.length - 1 - k) (by omega)
  have b := h2 k (by omega)
  rw [if_neg (by omega)] at a b
  rw [a, b]
  by_cases e1 : p = l.length - 1 - k
  · subst e1
    rw [if_pos (by omega), show l.length - 1 - (l.length - 1 - k) = k by omega]
    simp [h1, show l.length - 1 - k < l.length by omega]
  · by_cases e2 : p = k
    · subst e2
      rw [if_pos (by omega)]
      have : (l.length - 1 - p) ≠ p := by omega
      simp [h1, this, hp]
    · have c := h2 p hp
      have : ((M.set k (l.getD (l.length - 1 - k) t0)).set (l.length - 1 - k) (l.getD k t0)).getD p t0 = M.getD p t0 := by
        simp only [List.getD_eq_getElem?_getD, List.getElem?_set, if_neg (Ne.symm e1), if_neg (Ne.symm e2)]
      rw [this, c]
      by_cases hc : p < k ∨ l.length - 1 - p < k
      · rw [if_pos hc, if_pos (by omega)]
      · rw [if_neg hc, if_neg (by omega)]
set_option maxRecDepth 100000 in
set_option maxHeartbeats 4000000 in
theorem reverseR_c (base : Nat) (A : Option Addr) (l : List T3) (c : Nat) (w : World) (hlen : l.length ≤ 1000) (hown : w.ownsRow base 55 3 (.slice A l.length c) l.length (cellsT l)) :
    Calls Try.prog 83 #[.slice A l.length c] w fun e w' => e = .returned (.tuple #[]) ∧ w'.ownsRow base 55 3 (.slice A l.length c) l.length (cellsT l.reverse) ∧ Below base w w' := by
  have e0 : wrap64 ((l.length : Int) - 1) = (l.length : Int) - 1 := IntWalk.wrap64_in _ ⟨by omega, by omega⟩
  go_enter Try.func83, Try.ntmps83
  go_wp2_with (fail)
  go_loopg [2, 3] l.length (fun gk s2 s3 wr => ∃ (k : Nat) (M : List T3), Hid (k + gk = l.length) ∧ s2 = .int .i64 (k : Int) ∧ s3 = .int .i64 ((l.length : Int) - 1 - (k : Int)) ∧ Hid (Rv l k M) ∧ wr.ownsRow base 55 3 (.slice A l.length c) l.length (cellsT M) ∧ Below base w wr)
  case atStart => exact ⟨0, l, by simp [Hid], rfl, by simp, rv_zero l, hown, Below.refl _ _⟩
  case round =>
    obtain ⟨k, M, HK, rfl, rfl, HR, hownr, hb⟩ := hrel
    by_cases hlt : (k : Int) < (l.length : Int) - 1 - (k : Int)
    · have HN := Lib.hid (rv_next HR.out hlt)
      have hML := HR.out.1
      obtain ⟨j, hj⟩ : ∃ j : Nat, j = l.length - 1 - k := ⟨_, rfl⟩
      rw [← hj] at HN
      have hjz : (l.length : Int) - 1 - (k : Int) = (j : Int) := by omega
      have hjl : j < l.length := by omega
      have hkl : k < l.length := by omega
      have hne : k ≠ j := by omega
      rw [hjz] at hlt ⊢
      have hjl' : (j : Int) < (l.length : Int) := by omega
      have hkl' : (k : Int) < (l.length : Int) := by omega
      have howd : wr.drew.ownsRow base 55 3 (.slice A l.length c) l.length (cellsT M) := own_call hownr (Below.refl _ _).drew
      obtain ⟨g, rfl, hgb, hgl, ⟨c0, c1, c2⟩, f0, f1, f2⟩ := own_at3 howd hML hkl
      obtain ⟨g', hg', -, -, ⟨d0, d1, d2⟩, f3, f4, f5⟩ := own_at3 howd hML hjl
      injection hg' with hg'
      injection hg' with hg'
      subst hg'
      obtain ⟨g', hg', -, -, ⟨c0', c1', c2'⟩, f0', f1', f2'⟩ := own_at3 hownr hML hkl
      injection hg' with hg'
      injection hg' with hg'
      subst hg'
      obtain ⟨g', hg', -, -, ⟨d0', d1', d2'⟩, f3', f4', f5'⟩ := own_at3 hownr hML hjl
      injection hg' with hg'
      injection hg' with hg'
      subst hg'
      have h1 := own_put3 hownr (i := k) (by omega) (M.getD j t0)
      have h2 := own_put3 h1 (i := j) (by simp; omega) (M.getD k t0)
      have HO := Lib.hid h2
      have HJ := Lib.hid hj
      clear h1 h2 hj hownr howd hML
      generalize M.getD k t0 = x at *
      generalize M.getD j t0 = y at *
      obtain ⟨x0, x1, x2⟩ := x
      obtain ⟨y0, y1, y2⟩ := y
      simp only [] at c0 c1 c2 d0 d1 d2 HO c0' c1' c2' d0' d1' d2'
      go_wp2_with (fail)
      have mixed : Try.prog.follows .mixedOrders = true := by kernel_rfl
      go_big_region_o
      all_goals go_wp2
      have hbF := ((((((Below.refl base wr).setCell (p := ⟨g, k * 3, none⟩) hgb (.int .i64 y0)).setCell (p := ⟨g, k * 3 + 1, none⟩) hgb (.int .i64 y1)).setCell (p := ⟨g, k * 3 + 2, none⟩) hgb (.int .i64 y2)).setCell (p := ⟨g, j * 3, none⟩) hgb (.int .i64 x0)).setCell (p := ⟨g, j * 3 + 1, none⟩) hgb (.int .i64 x1)).setCell (p := ⟨g, j * 3 + 2, none⟩) hgb (.int .i64 x2)
      have HBF := Lib.hid hbF
      clear hbF
      go_roundg (gk - 1)
      case rel =>
        refine ⟨k + 1, _, ?_, ?_, ?_, HN, ?_, ?_⟩
        · have := HK.out; show _ = _; omega
        · go_num
        · rw [show (l.length : Int) - 1 - ((k + 1 : Nat) : Int) = (j : Int) - 1 by have := HJ.out; omega]
        · exact own_call HO.out (Below.refl _ _).drew
        · exact (hb.trans HBF.out).drew
      case measure => have := HK.out; omega
    · have HN := Lib.hid (rv_end HR.out hlt)
      go_wp2_with (fail)
      go_end0
      exact ⟨rfl, by rw [← HN.out]; exact hownr, hb⟩
end Go.Proofs.Ytbbhaongakmhpaa
