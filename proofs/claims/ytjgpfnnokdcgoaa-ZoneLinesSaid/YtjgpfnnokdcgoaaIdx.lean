/- slices.Index and slices.Contains at lists of numbers. -/
import Derived.Test.YtjgpfnnokdcgoaaRnear
namespace Go.Proofs.Ytjgpfnnokdcgoaa
open Go.RowKit

/-- The first place of a number, or -1. -/
def idxI (l : List Int) (q : Int) : Int := if q ∈ l then (l.idxOf q : Int) else -1
theorem idxI_at {l : List Int} {q : Int} {i : Nat} (hi : i < l.length) (he : l.getD i 0 = q) (hn : ∀ j, j < i → l.getD j 0 ≠ q) : idxI l q = i := by
  have hg : l[i] = q := by rw [← he]; simp [hi]
  have hm : q ∈ l := by rw [← hg]; exact List.getElem_mem hi
  rw [idxI, if_pos hm]
  have h1 : l.idxOf q < l.length := List.idxOf_lt_length_iff.2 hm
  have h2 : l[l.idxOf q] = q := List.getElem_idxOf h1
  have h3 : ¬ l.idxOf q < i := fun h => hn _ h (by simp [h1])
  have h4 : ¬ i < l.idxOf q := fun h => by
    have := List.not_of_lt_findIdx (p := (· == q)) (xs := l) (i := i) h
    simp [hg] at this
  omega
theorem idxI_none {l : List Int} {q : Int} (hn : ∀ j, j < l.length → l.getD j 0 ≠ q) : idxI l q = -1 := by
  rw [idxI, if_neg]
  intro hm
  obtain ⟨j, hj, he⟩ := List.mem_iff_getElem.1 hm
  exact hn j hj (by simp [hj, he])
theorem idxI_mem (l : List Int) (q : Int) : l.contains q = decide (0 ≤ idxI l q) := by
  rw [Bool.eq_iff_iff]
  simp only [List.contains_iff_mem, idxI]
  split
  · rename_i h; simp [h]
  · rename_i h; simp [h]

theorem ints_cell {w : World} {A : Option Addr} {to : List Int} (hr : Rd w A (ints to)) {i : Nat} (hi : i < to.length) : ∃ b o, A = some ⟨b, o, none⟩ ∧ b < w.heap.size ∧ ∀ j, j < to.length → w.cell? ⟨b, o + j, none⟩ = some (.int .i64 (to.getD j 0)) := by
  rcases hr with h0 | ⟨b, o, rfl, hb, hc⟩
  · have : (ints to).length = 0 := by rw [h0]; rfl
    simp [ints] at this; subst this; simp at hi
  · refine ⟨b, o, rfl, hb, fun j hj => hc j _ (ints_get hj)⟩

set_option maxRecDepth 100000 in
set_option maxHeartbeats 1000000 in
theorem index_c (A : Option Addr) (to : List Int) (c : Nat) (q : Int) (w : World) (hlen : to.length ≤ 1000) (hr : Rd w A (ints to)) :
    Calls Try.prog 91 #[.slice A to.length c, .int .i64 q] w fun e w' => e = .returned (.int .i64 (idxI to q)) ∧ Below w.heap.size w w' := by
  go_enter Try.func91, Try.ntmps91
  go_wp2_with (fail)
  go_loopg [8] to.length (fun gk kv wr => ∃ i : Nat, Hid (i + gk = to.length) ∧ kv = .int .i64 (i : Int) ∧ Hid (∀ j, j < i → to.getD j 0 ≠ q) ∧ Below w.heap.size w wr)
  case atStart => exact ⟨0, by simp [Hid], rfl, fun j h => by omega, Below.refl _ _⟩
  case round =>
    obtain ⟨i, HI, rfl, HN, hb⟩ := hrel
    rcases gk with _ | gi
    · have hni : ¬ (i : Int) < (to.length : Int) := by have h := HI.out; omega
      have HE : Hid (idxI to q = -1) := idxI_none (fun j hj => HN.out j (by have h := HI.out; omega))
      go_wp2_with (fail)
      go_ret
      exact ⟨by rw [HE.out]; rfl, hb⟩
    · have hil : i < to.length := by have h := HI.out; omega
      have hil' : (i : Int) < (to.length : Int) := by omega
      obtain ⟨b, o, rfl, hbl, hc⟩ := ints_cell (hr.later hb) hil
      have q1 := hc i hil
      have HE : Hid (to.getD i 0 = q → idxI to q = i) := fun h => idxI_at hil h HN.out
      have HS : Hid (to.getD i 0 ≠ q → ∀ j, j < i + 1 → to.getD j 0 ≠ q) := fun h j hj => by
        by_cases hji : j = i
        · subst hji; exact h
        · exact HN.out j (by omega)
      clear hc
      generalize to.getD i 0 = x at *
      by_cases hx : x = q
      · subst hx
        have HE' := Lib.hid (HE.out rfl)
        go_wp2_with (fail)
        go_ret
        exact ⟨by rw [HE'.out]; rfl, hb⟩
      · have HS' := Lib.hid (HS.out hx)
        have hxq : ¬ q = x := fun h => hx h.symm
        go_wp2_with (fail)
        go_roundg gi
        case rel => exact ⟨i + 1, by have h := HI.out; show _ = _; omega, by go_num, HS'.out, hb⟩
        case measure => omega

set_option maxRecDepth 100000 in
set_option maxHeartbeats 1000000 in
theorem contains_c (A : Option Addr) (to : List Int) (c : Nat) (q : Int) (w : World) (hlen : to.length ≤ 1000) (hr : Rd w A (ints to)) :
    Calls Try.prog 67 #[.slice A to.length c, .int .i64 q] w fun e w' => e = .returned (.bool (to.contains q)) ∧ Below w.heap.size w w' := by
  have HI := Lib.hid (index_c A to c q w hlen hr)
  have HQ := Lib.hid (idxI_mem to q)
  generalize to.contains q = cq at *
  generalize idxI to q = r at *
  go_enter Try.func67, Try.ntmps67
  go_wp2_with (fail)
  refine HI.out.mono ?_
  rintro e w1 ⟨rfl, hb1⟩
  go_wp2_with (fail)
  go_ret
  exact ⟨by rw [HQ.out]; rfl, hb1⟩
end Go.Proofs.Ytjgpfnnokdcgoaa
