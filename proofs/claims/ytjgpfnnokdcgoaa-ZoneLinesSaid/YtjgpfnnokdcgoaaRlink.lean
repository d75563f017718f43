/- The specification's answer to whether two zones have a link. -/
import Derived.Test.YtjgpfnnokdcgoaaRval2
namespace Go.Proofs.Ytjgpfnnokdcgoaa
open Go.RowKit Go.Maps

def keyL (a b : Int) : Int × Int := (min a b, max a b)
def linkB (l : List (Int × Int)) (a b : Int) : Bool := decide (keyL a b ∈ l)
theorem linkB_comm (l : List (Int × Int)) (a b : Int) : linkB l a b = linkB l b a := by rw [linkB, linkB, keyL, keyL, Int.min_comm, Int.max_comm]

set_option maxRecDepth 100000 in
set_option maxHeartbeats 4000000 in
theorem rlinked_c (Z : Int) (A : Option Addr) (l : List (Int × Int)) (c : Nat) (a b : Int) (w : World) (hlen : l.length ≤ 1000) (hr : Rd w A (cellsP l)) :
    Calls Try.prog 69 #[trapV Z A l.length c, .int .i64 a, .int .i64 b] w fun e w' => e = .returned (.bool (linkB l a b)) ∧ Below w.heap.size w w' := by
  have x0 := Bx.new w 24 #[.int .i64 Z, .slice A l.length c]
  have hb0 := bl_alloc (Below.refl w.heap.size w) (.cells #[.int .i64 Z, .slice A l.length c] 24)
  generalize hw0 : w.alloc (.cells #[.int .i64 Z, .slice A l.length c] 24) = w0 at *
  have HB : Hid (linkB l a b = decide (keyL a b ∈ l)) := rfl
  have HKL : Hid (keyL a b = (min a b, max a b)) := rfl
  generalize linkB l a b = r at *
  generalize keyL a b = y at *
  go_enter Try.func69, Try.ntmps69
  obtain ⟨c0, c1, _⟩ := x0.two
  go_wp2_with (fail)
  clear c0 c1
  go_loopg [7] l.length (fun gk iv wr => ∃ k : Nat, Hid (k + gk = l.length) ∧ iv = .int .i64 (k : Int) ∧ Bx wr w.heap.size 24 #[.int .i64 Z, .slice A l.length c] ∧ Hid (newB l y k = true) ∧ Below w.heap.size w wr)
  case atStart => exact ⟨0, by simp [Hid], rfl, x0, by simp [Hid, newB], hb0⟩
  case round =>
    obtain ⟨k, HK, rfl, xr, HO, hb⟩ := hrel
    obtain ⟨c0, c1, _⟩ := xr.two
    rcases gk with _ | gi
    · obtain rfl : k = l.length := HK.out
      have HR : Hid (r = false) := by
        show _ = _
        have h := HO.out
        rw [newB, List.take_length] at h
        rw [HB.out]; simpa using h
      go_wp2_with (fail)
      go_ret
      exact ⟨by rw [HR.out]; rfl, hb⟩
    · have hkl : k < l.length := by have h := HK.out; omega
      have hkl' : (k : Int) < (l.length : Int) := by omega
      obtain ⟨b', o, rfl, hbl, d0, d1⟩ := (hr.later hb).pair hkl
      have HN := Lib.hid (newB_snoc (x := y) hkl ((0 : Int), (0 : Int)))
      have HF : Hid (l.getD k (0, 0) = y → y ∈ l) := fun h => by rw [← h]; simp [hkl]
      generalize l.getD k (0, 0) = x at *
      obtain ⟨xa, xb⟩ := x
      simp only [] at d0 d1
      obtain ⟨ya, yb⟩ := y
      obtain ⟨e1, e2⟩ : ya = min a b ∧ yb = max a b := by have h := HKL.out; injection h with h1 h2; exact ⟨h1, h2⟩
      have q : min a b = ya := e1.symm
      have q' : max a b = yb := e2.symm
      clear e1 e2
      by_cases q1 : xa = ya
      · by_cases q2 : xb = yb
        · have HR : Hid (r = true) := by show _ = _; rw [HB.out]; simpa using HF.out (by rw [q1, q2])
          subst q1 q2
          clear HN HF HB HKL
          go_wp2_with (fail)
          all_goals
            go_ret
            exact ⟨by rw [HR.out]; rfl, hb⟩
        · have HO2 : Hid (newB l (ya, yb) (k + 1) = true) := by show _ = _; rw [HN.out, HO.out]; simp; omega
          subst q1
          clear HN HF HB HKL
          go_wp2_with (fail)
          all_goals
            go_roundg gi
            case rel => exact ⟨k + 1, by have h := HK.out; show _ = _; omega, by go_num, xr, HO2, hb⟩
            case measure => omega
      · have HO2 : Hid (newB l (ya, yb) (k + 1) = true) := by show _ = _; rw [HN.out, HO.out]; simp; omega
        clear HN HF HB HKL
        go_wp2_with (fail)
        all_goals
          go_roundg gi
          case rel => exact ⟨k + 1, by have h := HK.out; show _ = _; omega, by go_num, xr, HO2, hb⟩
          case measure => omega
end Go.Proofs.Ytjgpfnnokdcgoaa
