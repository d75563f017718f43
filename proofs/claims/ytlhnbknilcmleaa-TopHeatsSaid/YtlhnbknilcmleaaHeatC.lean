/- The fewest coolings for all limits. Lists and numbers alone. -/
import Derived.Test.YtlhnbknilcmleaaHeatN
namespace Go.Proofs.Ytlhnbknilcmleaa

/-- From the limit k on, so many at most. -/
def curveR (l : List T3) (k : Nat) : Nat → List Int
  | 0 => []
  | f + 1 => (few (k : Int) l : Int) :: (if few (k : Int) l = 0 then [] else curveR l (k + 1) f)
def curveL (l : List T3) : List Int := curveR l 0 101
theorem curveR_len (l : List T3) : ∀ f k, (curveR l k f).length ≤ f
  | 0, _ => by simp [curveR]
  | f + 1, k => by
    have := curveR_len l f (k + 1)
    rw [curveR]
    split <;> simp
    omega
theorem curveL_len (l : List T3) : (curveL l).length ≤ 101 := curveR_len l 101 0
theorem curveR_get (l : List T3) : ∀ f k i, i < (curveR l k f).length → (curveR l k f).getD i 0 = few ((k + i : Nat) : Int) l
  | 0, _, i, h => by simp [curveR] at h
  | f + 1, k, 0, _ => by rw [curveR]; rfl
  | f + 1, k, i + 1, h => by
    rw [curveR] at h ⊢
    by_cases hz : few (k : Int) l = 0
    · rw [if_pos hz] at h; simp at h
    · rw [if_neg hz] at h ⊢
      have := curveR_get l f (k + 1) i (by simpa using h)
      rw [show k + 1 + i = k + (i + 1) by omega] at this
      simpa using this
theorem curveL_get (l : List T3) (i : Nat) (h : i < (curveL l).length) : (curveL l).getD i 0 = few (i : Int) l := by
  have := curveR_get l 101 0 i h
  rwa [Nat.zero_add] at this
/-- Behind the end there are none. -/
theorem curveR_end {l : List T3} (ha : Acts l) : ∀ f k i, (curveR l k f).length ≤ i → i < f → few ((k + i : Nat) : Int) l = 0
  | 0, _, i, _, h => by omega
  | f + 1, k, i, h, hi => by
    rw [curveR] at h
    by_cases hz : few (k : Int) l = 0
    · have := few_limits (lim := (k : Int)) (lim' := ((k + i : Nat) : Int)) (by omega) ha
      omega
    · rw [if_neg hz] at h
      cases i with
      | zero => simp at h
      | succ i =>
        have := curveR_end ha f (k + 1) i (by simpa using h) (by omega)
        rwa [show k + 1 + i = k + (i + 1) by omega] at this
theorem curveL_end {l : List T3} (ha : Acts l) (i : Nat) (h : (curveL l).length ≤ i) (hi : i < 101) : few (i : Int) l = 0 := by
  have := curveR_end ha 101 0 i h hi
  rwa [Nat.zero_add] at this
theorem curveL_mono {l : List T3} (ha : Acts l) (i : Nat) (h : i + 1 < (curveL l).length) : (curveL l).getD (i + 1) 0 ≤ (curveL l).getD i 0 := by
  rw [curveL_get l i (by omega), curveL_get l (i + 1) h]
  have := few_limits (lim := (i : Int)) (lim' := ((i + 1 : Nat) : Int)) (by omega) ha
  omega
end Go.Proofs.Ytlhnbknilcmleaa
