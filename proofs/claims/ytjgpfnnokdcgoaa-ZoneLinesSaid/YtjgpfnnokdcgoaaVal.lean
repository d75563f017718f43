/- Which traps and places are right. -/
import Derived.Test.YtjgpfnnokdcgoaaTwice
namespace Go.Proofs.Ytjgpfnnokdcgoaa
open Go.RowKit Go.Maps

def linkOk (Z : Int) (x : Int × Int) : Bool := decide (0 ≤ x.1) && decide (x.1 < x.2) && decide (x.2 < Z)
def trapE (Z : Int) (l : List (Int × Int)) : Int := if 1 ≤ Z ∧ Z ≤ 6 then (if l.all (linkOk Z) then (if onceB l then 0 else 6) else 1) else 1
def zoneOk (Z : Int) (x : Int) : Bool := decide (0 ≤ x) && decide (x < Z)
def placeE (Z : Int) (l : List (Int × Int)) (p : List Int) : Int := if trapE Z l = 0 then (if p.length ≤ 4 then (if p.all (zoneOk Z) then (if onceB p then 0 else 6) else 1) else 3) else trapE Z l
theorem linkOk_iff {Z : Int} {x : Int × Int} : linkOk Z x = true ↔ 0 ≤ x.1 ∧ x.1 < x.2 ∧ x.2 < Z := by simp [linkOk]; omega
theorem zoneOk_iff {Z x : Int} : zoneOk Z x = true ↔ 0 ≤ x ∧ x < Z := by simp [zoneOk]
theorem trapE_zero {Z : Int} {l : List (Int × Int)} (h : trapE Z l = 0) : (1 ≤ Z ∧ Z ≤ 6) ∧ (∀ x ∈ l, 0 ≤ x.1 ∧ x.1 < x.2 ∧ x.2 < Z) ∧ l.Nodup := by
  unfold trapE at h
  split at h
  · rename_i hz
    split at h
    · rename_i ha
      split at h
      · rename_i ho
        exact ⟨hz, fun x hx => linkOk_iff.1 (List.all_eq_true.1 ha x hx), by simpa [onceB] using ho⟩
      · omega
    · omega
  · omega
theorem placeE_zero {Z : Int} {l : List (Int × Int)} {p : List Int} (h : placeE Z l p = 0) : trapE Z l = 0 ∧ p.length ≤ 4 ∧ (∀ x ∈ p, 0 ≤ x ∧ x < Z) ∧ p.Nodup := by
  unfold placeE at h
  split at h
  · rename_i ht
    split at h
    · rename_i hl
      split at h
      · rename_i ha
        split at h
        · rename_i ho
          exact ⟨ht, hl, fun x hx => zoneOk_iff.1 (List.all_eq_true.1 ha x hx), by simpa [onceB] using ho⟩
        · omega
      · omega
    · omega
  · omega
theorem all_snoc {α : Type} {f : α → Bool} {l : List α} {k : Nat} (h : k < l.length) (d : α) : (l.take (k + 1)).all f = ((l.take k).all f && f (l.getD k d)) := by
  have e : l.take (k + 1) = l.take k ++ [l.getD k d] := by rw [List.take_succ_eq_append_getElem h]; simp [h]
  rw [e, List.all_append]; simp
theorem all_not {α : Type} {f : α → Bool} {l : List α} {k : Nat} (h : k < l.length) (d : α) (hf : f (l.getD k d) = false) : l.all f = false := by
  rw [Bool.eq_false_iff]
  intro ha
  have := List.all_eq_true.1 ha (l.getD k d) (by simp [h])
  rw [this] at hf; cases hf

theorem isOneOf_c (x n : Int) (w : World) : Calls Try.prog 60 #[.int .i64 x, .int .i64 n] w fun e w' => e = .returned (.bool (zoneOk n x)) ∧ w = w' := by
  by_cases h1 : 0 ≤ x
  · by_cases h2 : x < n
    · go_enter Try.func60, Try.ntmps60
      go_wp2
      go_ret
      exact ⟨by simp [zoneOk]; omega, rfl⟩
    · go_enter Try.func60, Try.ntmps60
      go_wp2
      go_ret
      exact ⟨by simp [zoneOk]; omega, rfl⟩
  · go_enter Try.func60, Try.ntmps60
    go_wp2
    go_ret
    exact ⟨by simp [zoneOk]; omega, rfl⟩

/-- A trap, as a value. -/
abbrev trapV (Z : Int) (A : Option Addr) (n c : Nat) : Value := .agg #[.int .i64 Z, .slice A n c]

set_option maxRecDepth 100000 in
set_option maxHeartbeats 2000000 in
theorem validate_c (Z : Int) (A : Option Addr) (l : List (Int × Int)) (c : Nat) (w : World) (hlen : l.length ≤ 1000) (hr : Rd w A (cellsP l)) :
    Calls Try.prog 22 #[trapV Z A l.length c] w fun e w' => e = .returned (.int .i64 (trapE Z l)) ∧ Below w.heap.size w w' := by
  have x0 := Bx.new w 24 #[.int .i64 Z, .slice A l.length c]
  have hb0 := bl_alloc (Below.refl w.heap.size w) (.cells #[.int .i64 Z, .slice A l.length c] 24)
  generalize hw0 : w.alloc (.cells #[.int .i64 Z, .slice A l.length c] 24) = w0 at *
  by_cases h1 : Z < 1
  · have hE : trapE Z l = 1 := by rw [trapE, if_neg (by omega)]
    go_enter Try.func22, Try.ntmps22
    obtain ⟨c0, c1, _⟩ := x0.two
    go_wp2_with (fail)
    go_ret
    first | exact ⟨rfl, hb0⟩ | exact ⟨by rw [hE]; rfl, hb0⟩
  · by_cases h2 : 6 < Z
    · have hE : trapE Z l = 1 := by rw [trapE, if_neg (by omega)]
      go_enter Try.func22, Try.ntmps22
      obtain ⟨c0, c1, _⟩ := x0.two
      go_wp2_with (fail)
      go_ret
      first | exact ⟨rfl, hb0⟩ | exact ⟨by rw [hE]; rfl, hb0⟩
    · have hE : Hid (trapE Z l = if l.all (linkOk Z) then (if onceB l then 0 else 6) else 1) := by show _ = _; rw [trapE, if_pos (by omega)]
      generalize trapE Z l = E at *
      go_enter Try.func22, Try.ntmps22
      obtain ⟨c0, c1, _⟩ := x0.two
      go_wp2_with (fail)
      clear c0 c1
      go_loopg [16] l.length (fun gk iv wr => ∃ k : Nat, Hid (k + gk = l.length) ∧ iv = .int .i64 (k : Int) ∧ Bx wr w.heap.size 24 #[.int .i64 Z, .slice A l.length c] ∧ Hid ((l.take k).all (linkOk Z) = true) ∧ Below w.heap.size w wr)
      case atStart => exact ⟨0, by simp [Hid], rfl, x0, by simp [Hid], hb0⟩
      case round =>
        obtain ⟨k, HK, rfl, xr, HO, hb⟩ := hrel
        obtain ⟨c0, c1, _⟩ := xr.two
        rcases gk with _ | gi
        · obtain rfl : k = l.length := HK.out
          have hO := HO.out
          rw [List.take_length] at hO
          have HW := Lib.hid (twiceLinks_c A l c wr hlen (fun x hx => by have h := linkOk_iff.1 (List.all_eq_true.1 hO x hx); omega) (hr.later hb))
          have hE2 := hE.out
          rw [hO] at hE2
          cases ho : onceB l with
          | true =>
            rw [ho] at HW hE2
            have HE2 := Lib.hid hE2
            clear hO hE2 ho hE
            go_wp2_with (fail)
            refine HW.out.mono ?_
            rintro e w1 ⟨rfl, hb1⟩
            go_wp2_with (fail)
            go_ret
            exact ⟨by rw [HE2.out]; rfl, bl_call hb hb1⟩
          | false =>
            rw [ho] at HW hE2
            have HE2 := Lib.hid hE2
            clear hO hE2 ho hE
            go_wp2_with (fail)
            refine HW.out.mono ?_
            rintro e w1 ⟨rfl, hb1⟩
            go_wp2_with (fail)
            go_ret
            exact ⟨by rw [HE2.out]; rfl, bl_call hb hb1⟩
        · have hkl : k < l.length := by have h := HK.out; omega
          have hkl' : (k : Int) < (l.length : Int) := by omega
          obtain ⟨b, o, rfl, hbl, d0, d1⟩ := (hr.later hb).pair hkl
          have HN := Lib.hid (all_snoc (f := linkOk Z) hkl ((0 : Int), (0 : Int)))
          have HF := Lib.hid (fun h => all_not (f := linkOk Z) hkl ((0 : Int), (0 : Int)) h)
          generalize l.getD k (0, 0) = x at *
          obtain ⟨xa, xb⟩ := x
          simp only [] at d0 d1
          have HX : Hid (linkOk Z (xa, xb) = (decide (0 ≤ xa) && decide (xa < xb) && decide (xb < Z))) := rfl
          have hB1 := bl_alloc hb (.cells #[.int .i64 xa, .int .i64 xb] 69)
          have hx1 := xr.alloc (.cells #[.int .i64 xa, .int .i64 xb] 69)
          obtain ⟨e0, e1, _⟩ := hx1.two
          by_cases q1 : xa < 0
          · have HE2 : Hid (E = 1) := by show _ = _; rw [hE.out, HF.out (by rw [HX.out]; simp; omega)]; rfl
            clear HN HF HX hE
            go_wp2_with (fail)
            go_ret
            exact ⟨by rw [HE2.out]; rfl, hB1⟩
          · by_cases q2 : xb ≤ xa
            · have HE2 : Hid (E = 1) := by show _ = _; rw [hE.out, HF.out (by rw [HX.out]; simp; omega)]; rfl
              clear HN HF HX hE
              go_wp2_with (fail)
              go_ret
              exact ⟨by rw [HE2.out]; rfl, hB1⟩
            · by_cases q3 : Z ≤ xb
              · have HE2 : Hid (E = 1) := by show _ = _; rw [hE.out, HF.out (by rw [HX.out]; simp; omega)]; rfl
                clear HN HF HX hE
                go_wp2_with (fail)
                go_ret
                exact ⟨by rw [HE2.out]; rfl, hB1⟩
              · have HO2 : Hid ((l.take (k + 1)).all (linkOk Z) = true) := by show _ = _; rw [HN.out, HO.out, HX.out]; simp; omega
                clear HN HF HX
                go_wp2_with (fail)
                go_roundg gi
                case rel => exact ⟨k + 1, by have h := HK.out; show _ = _; omega, by go_num, hx1, HO2, hB1⟩
                case measure => omega
end Go.Proofs.Ytjgpfnnokdcgoaa
