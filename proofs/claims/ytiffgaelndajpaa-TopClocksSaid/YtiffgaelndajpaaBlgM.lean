/- What waits after each unit: step by step, and as the greatest of sums. Lists and numbers alone. -/
import Derived.Test.YtiffgaelndajpaaClkT
namespace Go.Proofs.Ytiffgaelndajpaa

/-- What waits after t units. -/
def blT (come : List Int) (done : Int) : Nat → Int
  | 0 => 0
  | t + 1 => max 0 (blT come done t + come.getD t 0 - done)
def blTo (come : List Int) (done : Int) (n : Nat) : List Int := (List.range n).map fun t => blT come done (t + 1)
theorem blTo_succ (come : List Int) (done : Int) (n : Nat) : blTo come done (n + 1) = blTo come done n ++ [blT come done (n + 1)] := by simp [blTo, List.range_succ]
@[simp] theorem blTo_len (come : List Int) (done : Int) (n : Nat) : (blTo come done n).length = n := by simp [blTo]
theorem blTo_get (come : List Int) (done : Int) {n t : Nat} (h : t < n) : (blTo come done n).getD t 0 = blT come done (t + 1) := by simp [blTo, h]
def amts (come : List Int) : Bool := come.all fun x => inB x 0 60
def blgE (come : List Int) (done : Int) : Int := if 60 < come.length then 1 else if inB done 0 60 then (if amts come then 0 else 1) else 1
def blgL (come : List Int) (done : Int) : List Int := if blgE come done = 0 then blTo come done come.length else []
theorem blgE_zero {come : List Int} {done : Int} : blgE come done = 0 ↔ come.length ≤ 60 ∧ inB done 0 60 = true ∧ amts come = true := by
  unfold blgE
  by_cases h1 : 60 < come.length
  · rw [if_pos h1]; exact ⟨fun x => (by cases x), fun x => absurd x.1 (by omega)⟩
  · rw [if_neg h1]
    by_cases h2 : inB done 0 60 = true
    · rw [if_pos h2]
      by_cases h3 : amts come = true
      · rw [if_pos h3]; exact ⟨fun _ => ⟨by omega, h2, h3⟩, fun _ => rfl⟩
      · rw [if_neg h3]; exact ⟨fun x => (by cases x), fun x => absurd x.2.2 h3⟩
    · rw [if_neg h2]; exact ⟨fun x => (by cases x), fun x => absurd x.2.1 h2⟩
theorem amts_take {come : List Int} {k : Nat} (h : k < come.length) : amts (come.take (k + 1)) = (amts (come.take k) && inB (come.getD k 0) 0 60) := by
  rw [amts, List.take_succ_eq_append_getElem h, List.all_append]; simp [h, amts]
theorem amts_no {come : List Int} {k : Nat} (h : k < come.length) (hf : inB (come.getD k 0) 0 60 = false) : amts come = false := by
  rw [amts, List.all_eq_false]
  exact ⟨come[k], List.getElem_mem h, by simp [h] at hf; simp [hf]⟩
theorem amts_get {come : List Int} (h : amts come = true) {k : Nat} (hk : k < come.length) : 0 ≤ come.getD k 0 ∧ come.getD k 0 ≤ 60 := by
  have := List.all_eq_true.1 h _ (List.getElem_mem hk)
  have := inB_z.1 this
  simpa [hk] using this
theorem blT_range {come : List Int} {done : Int} (hd : 0 ≤ done) {n : Nat} (hc : ∀ k, k < n → 0 ≤ come.getD k 0 ∧ come.getD k 0 ≤ 60) : ∀ t, t ≤ n → 0 ≤ blT come done t ∧ blT come done t ≤ 60 * t
  | 0, _ => by simp [blT]
  | t + 1, h => by
    have ih := blT_range hd hc t (by omega)
    have := hc t (by omega)
    rw [blT]; omega
/-- The sum of the last j units before t + 1, and the greatest of the first j of them, or 0. -/
def sfx (come : List Int) (done : Int) (t : Nat) : Nat → Int
  | 0 => 0
  | j + 1 => sfx come done t j + (come.getD (t - j) 0 - done)
def mxT (come : List Int) (done : Int) (t : Nat) : Nat → Int
  | 0 => 0
  | j + 1 => max (mxT come done t j) (sfx come done t (j + 1))
theorem sfx_next (come : List Int) (done : Int) (t : Nat) : ∀ j, sfx come done (t + 1) (j + 1) = come.getD (t + 1) 0 - done + sfx come done t j
  | 0 => by simp [sfx]
  | j + 1 => by
    rw [sfx, sfx_next come done t j, sfx, show t + 1 - (j + 1) = t - j by omega]; omega
theorem mxT_next (come : List Int) (done : Int) (t : Nat) : ∀ j, mxT come done (t + 1) (j + 1) = max 0 (come.getD (t + 1) 0 - done + mxT come done t j)
  | 0 => by
    rw [mxT, mxT, mxT, sfx_next, sfx]
  | j + 1 => by
    rw [mxT, mxT_next come done t j, sfx_next, mxT]; omega
theorem mxT_bl (come : List Int) (done : Int) : ∀ t, mxT come done t (t + 1) = blT come done (t + 1)
  | 0 => by simp [mxT, sfx, blT]
  | t + 1 => by
    rw [mxT_next, mxT_bl come done t]
    show _ = max 0 (blT come done (t + 1) + come.getD (t + 1) 0 - done)
    congr 1; omega
theorem sfx_range {come : List Int} {done : Int} (hd : 0 ≤ done ∧ done ≤ 60) {t : Nat} (hc : ∀ k, k ≤ t → 0 ≤ come.getD k 0 ∧ come.getD k 0 ≤ 60) : ∀ j, j ≤ t + 1 → -60 * (j : Int) ≤ sfx come done t j ∧ sfx come done t j ≤ 60 * j
  | 0, _ => by simp [sfx]
  | j + 1, h => by
    have ih := sfx_range hd hc j (by omega)
    have := hc (t - j) (by omega)
    rw [sfx]; omega
theorem mxT_range {come : List Int} {done : Int} (hd : 0 ≤ done ∧ done ≤ 60) {t : Nat} (hc : ∀ k, k ≤ t → 0 ≤ come.getD k 0 ∧ come.getD k 0 ≤ 60) : ∀ j, j ≤ t + 1 → 0 ≤ mxT come done t j ∧ mxT come done t j ≤ 60 * j
  | 0, _ => by simp [mxT]
  | j + 1, h => by
    have ih := mxT_range hd hc j (by omega)
    have := sfx_range hd hc (j + 1) h
    rw [mxT]; omega
end Go.Proofs.Ytiffgaelndajpaa
