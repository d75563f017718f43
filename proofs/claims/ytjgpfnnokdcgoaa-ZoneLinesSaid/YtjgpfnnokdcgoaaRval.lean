/- The specification's answers to which traps and places are right, and whether two zones have a link. -/
import Derived.Test.YtjgpfnnokdcgoaaVal2
namespace Go.Proofs.Ytjgpfnnokdcgoaa
open Go.RowKit Go.Maps

theorem Rd.pairs2 {w : World} {A : Option Addr} {l : List (Int × Int)} (h : Rd w A (cellsP l)) {i j : Nat} (hi : i < l.length) (hj : j < l.length) : ∃ b o, A = some ⟨b, o, none⟩ ∧ b < w.heap.size ∧
    (w.cell? ⟨b, o + i * 2, none⟩ = some (.int .i64 (l.getD i (0, 0)).1) ∧ w.cell? ⟨b, o + i * 2 + 1, none⟩ = some (.int .i64 (l.getD i (0, 0)).2)) ∧
    w.cell? ⟨b, o + j * 2, none⟩ = some (.int .i64 (l.getD j (0, 0)).1) ∧ w.cell? ⟨b, o + j * 2 + 1, none⟩ = some (.int .i64 (l.getD j (0, 0)).2) := by
  obtain ⟨b, o, rfl, hb, c0, c1⟩ := h.pair hi
  obtain ⟨b', o', he, _, d0, d1⟩ := h.pair hj
  injection he with he
  injection he with e1 e2
  subst e1 e2
  exact ⟨b, o, rfl, hb, ⟨c0, c1⟩, d0, d1⟩
/-- Not among the first ones. -/
def newB (l : List (Int × Int)) (x : Int × Int) (k : Nat) : Bool := decide (x ∉ l.take k)
theorem newB_snoc {l : List (Int × Int)} {x : Int × Int} {k : Nat} (h : k < l.length) (d : Int × Int) : newB l x (k + 1) = (newB l x k && !decide (l.getD k d = x)) := by
  have e : l.take (k + 1) = l.take k ++ [l.getD k d] := by rw [List.take_succ_eq_append_getElem h]; simp [h]
  rw [newB, newB, e, Bool.eq_iff_iff]
  simp only [decide_eq_true_eq, Bool.and_eq_true, Bool.not_eq_true', decide_eq_false_iff_not, List.mem_append, List.mem_singleton, not_or]
  constructor
  · rintro ⟨h1, h2⟩; exact ⟨h1, fun e => h2 e.symm⟩
  · rintro ⟨h1, h2⟩; exact ⟨h1, fun e => h2 e.symm⟩

set_option maxRecDepth 100000 in
set_option maxHeartbeats 4000000 in
theorem rvalidate_c (Z : Int) (A : Option Addr) (l : List (Int × Int)) (c : Nat) (w : World) (hlen : l.length ≤ 1000) (hr : Rd w A (cellsP l)) :
    Calls Try.prog 23 #[trapV Z A l.length c] w fun e w' => e = .returned (.int .i64 (trapE Z l)) ∧ Below w.heap.size w w' := by
  have x0 := Bx.new w 24 #[.int .i64 Z, .slice A l.length c]
  have hb0 := bl_alloc (Below.refl w.heap.size w) (.cells #[.int .i64 Z, .slice A l.length c] 24)
  generalize hw0 : w.alloc (.cells #[.int .i64 Z, .slice A l.length c] 24) = w0 at *
  have HW := Lib.hid (within_c Z 1 6 w0)
  by_cases hz : 1 ≤ Z ∧ Z ≤ 6
  · have hE : Hid (trapE Z l = if l.all (linkOk Z) then (if onceB l then 0 else 6) else 1) := by show _ = _; rw [trapE, if_pos hz]
    rw [show (decide (1 ≤ Z) && decide (Z ≤ 6)) = true by simp; omega] at HW
    generalize trapE Z l = E at *
    clear hz
    go_enter Try.func23, Try.ntmps23
    obtain ⟨c0, c1, _⟩ := x0.two
    go_wp2_with (fail)
    refine HW.out.mono ?_
    rintro e w1 ⟨rfl, rfl⟩
    go_wp2_with (fail)
    clear c0 c1
    go_loopg [3] l.length (fun gk iv wr => ∃ k : Nat, Hid (k + gk = l.length) ∧ iv = .int .i64 (k : Int) ∧ Bx wr w.heap.size 24 #[.int .i64 Z, .slice A l.length c] ∧ Hid ((l.take k).all (linkOk Z) = true) ∧ Below w.heap.size w wr)
    case atStart => exact ⟨0, by simp [Hid], rfl, x0, by simp [Hid], hb0⟩
    case round =>
      obtain ⟨k, HK, rfl, xr, HO, hb⟩ := hrel
      obtain ⟨c0, c1, _⟩ := xr.two
      rcases gk with _ | gi
      · obtain rfl : k = l.length := HK.out
        have hO := HO.out
        rw [List.take_length] at hO
        have hE2 : Hid (E = if onceB l then 0 else 6) := by show _ = _; rw [hE.out, if_pos hO]
        clear hO hE HO
        obtain ⟨wo, rfl⟩ : ∃ wo, wo = wr := ⟨_, rfl⟩
        go_wp2_with (fail)
        clear c0 c1
        go_loopg [5] l.length (fun gk iv wr => ∃ k : Nat, Hid (k + gk = l.length) ∧ iv = .int .i64 (k : Int) ∧ Bx wr w.heap.size 24 #[.int .i64 Z, .slice A l.length c] ∧ Hid (onceB (l.take k) = true) ∧ Below w.heap.size w wr)
        case atStart => exact ⟨0, by simp [Hid], rfl, xr, by simp [Hid, onceB], hb⟩
        case round =>
          obtain ⟨k, HK, rfl, xr, HO, hb⟩ := hrel
          obtain ⟨c0, c1, _⟩ := xr.two
          rcases gk with _ | gi
          · obtain rfl : k = l.length := HK.out
            have hO := HO.out
            rw [List.take_length] at hO
            have hE3 : Hid (E = 0) := by show _ = _; rw [hE2.out, hO]; rfl
            clear hO
            go_wp2_with (fail)
            go_ret
            exact ⟨by rw [hE3.out]; rfl, hb⟩
          · have hkl : k < l.length := by have h := HK.out; omega
            have hkl' : (k : Int) < (l.length : Int) := by omega
            have HN := Lib.hid (once_snoc hkl ((0 : Int), (0 : Int)))
            have HTw := Lib.hid (fun h => @once_twice _ _ l k hkl ((0 : Int), (0 : Int)) h)
            obtain ⟨wi, rfl⟩ : ∃ wi, wi = wr := ⟨_, rfl⟩
            go_wp2_with (fail)
            clear c0 c1
            go_loopg [6] k (fun gk iv wr => ∃ i : Nat, Hid (i + gk = k) ∧ iv = .int .i64 (i : Int) ∧ Bx wr w.heap.size 24 #[.int .i64 Z, .slice A l.length c] ∧ Hid (newB l (l.getD k (0, 0)) i = true) ∧ Below w.heap.size w wr)
            case atStart => exact ⟨0, by simp [Hid], rfl, xr, by simp [Hid, newB], hb⟩
            case round =>
              obtain ⟨i, HI, rfl, xr, HM, hb⟩ := hrel
              obtain ⟨c0, c1, _⟩ := xr.two
              rcases gk with _ | gj
              · obtain rfl : i = k := HI.out
                have HO2 : Hid (onceB (l.take (i + 1)) = true) := by
                  show _ = _
                  have h := HM.out
                  rw [newB, decide_eq_true_eq] at h
                  rw [HN.out, HO.out]; simpa using h
                go_wp2_with (fail)
                go_roundg gi
                case rel => exact ⟨i + 1, by have h := HK.out; show _ = _; omega, by go_num, xr, HO2, hb⟩
                case measure => omega
              · have hik : i < k := by have h := HI.out; omega
                have hil : i < l.length := by omega
                have hik' : (i : Int) < (k : Int) := by omega
                have hil' : (i : Int) < (l.length : Int) := by omega
                obtain ⟨b, o, rfl, hbl, ⟨d0, d1⟩, e0, e1⟩ := (hr.later hb).pairs2 hil hkl
                have HMN := Lib.hid (newB_snoc (x := l.getD k (0, 0)) hil ((0 : Int), (0 : Int)))
                have hmem : l.getD i (0, 0) ∈ l.take k := by
                  rw [List.mem_iff_getElem]
                  exact ⟨i, by simp; omega, by simp [hil]⟩
                have HMM : Hid (l.getD i (0, 0) = l.getD k (0, 0) → onceB l = false) := fun h => HTw.out (h ▸ hmem)
                clear hmem HN HTw
                generalize l.getD i (0, 0) = x at *
                generalize l.getD k (0, 0) = y at *
                obtain ⟨xa, xb⟩ := x
                obtain ⟨ya, yb⟩ := y
                simp only [] at d0 d1 e0 e1
                have hwr := hb.drew
                by_cases hq : xa = ya ∧ xb = yb
                · obtain ⟨rfl, rfl⟩ := hq
                  have hE3 : Hid (E = 6) := by show _ = _; rw [hE2.out, HMM.out rfl]; rfl
                  clear HMN HMM
                  go_wp2_with (fail)
                  go_region
                  all_goals
                    go_wp2_with (fail)
                    go_ret
                    exact ⟨by rw [hE3.out]; rfl, hwr⟩
                · have HM2 : Hid (newB l (ya, yb) (i + 1) = true) := by show _ = _; rw [HMN.out, HM.out]; simp; omega
                  have HQ := Lib.hid hq
                  by_cases q1 : xa = ya
                  · have q2 : ¬ xb = yb := fun h => hq ⟨q1, h⟩
                    subst q1
                    clear HMN HMM hq
                    go_wp2_with (fail)
                    go_region
                    all_goals
                      go_wp2_with (fail)
                      go_roundg gj
                      case rel => exact ⟨i + 1, by have h := HI.out; show _ = _; omega, by go_num, xr, HM2, hwr⟩
                      case measure => omega
                  · clear HMN HMM hq
                    go_wp2_with (fail)
                    go_region
                    all_goals
                      go_wp2_with (fail)
                      go_roundg gj
                      case rel => exact ⟨i + 1, by have h := HI.out; show _ = _; omega, by go_num, xr, HM2, hwr⟩
                      case measure => omega
      · have hkl : k < l.length := by have h := HK.out; omega
        have hkl' : (k : Int) < (l.length : Int) := by omega
        obtain ⟨b, o, rfl, hbl, d0, d1⟩ := (hr.later hb).pair hkl
        have HN := Lib.hid (all_snoc (f := linkOk Z) hkl ((0 : Int), (0 : Int)))
        have HF := Lib.hid (fun h => all_not (f := linkOk Z) hkl ((0 : Int), (0 : Int)) h)
        generalize l.getD k (0, 0) = x at *
        obtain ⟨xa, xb⟩ := x
        simp only [] at d0 d1
        have HX : Hid (linkOk Z (xa, xb) = (decide (0 ≤ xa) && decide (xa < xb) && decide (xb < Z))) := rfl
        have hB1 := bl_alloc hb (.cells #[.int .i64 xa, .int .i64 xb] 69)
        have hx1 := xr.alloc (.cells #[.int .i64 xa, .int .i64 xb] 69)
        obtain ⟨e0, e1, _⟩ := hx1.two
        by_cases q1 : xa < 0
        · have HE2 : Hid (E = 1) := by show _ = _; rw [hE.out, HF.out (by rw [HX.out]; simp; omega)]; rfl
          clear HN HF HX hE
          go_wp2_with (fail)
          go_ret
          exact ⟨by rw [HE2.out]; rfl, hB1⟩
        · by_cases q2 : Z ≤ xb
          · have HE2 : Hid (E = 1) := by show _ = _; rw [hE.out, HF.out (by rw [HX.out]; simp; omega)]; rfl
            clear HN HF HX hE
            go_wp2_with (fail)
            go_ret
            exact ⟨by rw [HE2.out]; rfl, hB1⟩
          · by_cases q3 : xb ≤ xa
            · have HE2 : Hid (E = 1) := by show _ = _; rw [hE.out, HF.out (by rw [HX.out]; simp; omega)]; rfl
              clear HN HF HX hE
              go_wp2_with (fail)
              go_ret
              exact ⟨by rw [HE2.out]; rfl, hB1⟩
            · have HO2 : Hid ((l.take (k + 1)).all (linkOk Z) = true) := by show _ = _; rw [HN.out, HO.out, HX.out]; simp; omega
              clear HN HF HX
              go_wp2_with (fail)
              go_roundg gi
              case rel => exact ⟨k + 1, by have h := HK.out; show _ = _; omega, by go_num, hx1, HO2, hB1⟩
              case measure => omega
  · have hE : trapE Z l = 1 := by rw [trapE, if_neg hz]
    rw [show (decide (1 ≤ Z) && decide (Z ≤ 6)) = false by simp; omega] at HW
    go_enter Try.func23, Try.ntmps23
    obtain ⟨c0, c1, _⟩ := x0.two
    go_wp2_with (fail)
    refine HW.out.mono ?_
    rintro e w1 ⟨rfl, rfl⟩
    go_wp2_with (fail)
    go_ret
    first | exact ⟨rfl, hb0⟩ | exact ⟨by rw [hE]; rfl, hb0⟩
end Go.Proofs.Ytjgpfnnokdcgoaa
