/- The pulses of a search, in their order, by number. -/
import Derived.Test.YtpjdojjdhbmbjaaMod
namespace Go.Proofs.Ytpjdojjdhbmbjaa

/-- The pulse of the number i: its digits, from -f on. -/
def pAt (f : Nat) : Nat → Nat → List Int
  | 0, _ => []
  | n + 1, i => pAt f n (i / (2 * f + 1)) ++ [-(f : Int) + (i % (2 * f + 1) : Nat)]

theorem pAt_len (f : Nat) : ∀ n i, (pAt f n i).length = n
  | 0, _ => rfl
  | n + 1, i => by simp [pAt, pAt_len f n]
theorem pAt_zero (f : Nat) : ∀ n, pAt f n 0 = List.replicate n (-(f : Int))
  | 0 => rfl
  | n + 1 => by simp [pAt, pAt_zero f n, ← List.replicate_succ']
theorem pAt_split (f : Nat) (m : Nat) : ∀ (k q r : Nat), r < (2 * f + 1) ^ k → pAt f (m + k) (q * (2 * f + 1) ^ k + r) = pAt f m q ++ pAt f k r
  | 0, q, r, h => by simp at h; subst h; simp [pAt]
  | k + 1, q, r, h => by
    have hb : 0 < 2 * f + 1 := by omega
    have e1 : (q * (2 * f + 1) ^ (k + 1) + r) / (2 * f + 1) = q * (2 * f + 1) ^ k + r / (2 * f + 1) := by
      rw [Nat.pow_succ, ← Nat.mul_assoc, Nat.add_comm, Nat.add_mul_div_right _ _ hb, Nat.add_comm]
    have e2 : (q * (2 * f + 1) ^ (k + 1) + r) % (2 * f + 1) = r % (2 * f + 1) := by
      rw [Nat.pow_succ, ← Nat.mul_assoc, Nat.add_comm, Nat.add_mul_mod_self_right]
    have h3 : r / (2 * f + 1) < (2 * f + 1) ^ k := by
      rw [Nat.div_lt_iff_lt_mul hb]; rwa [Nat.pow_succ] at h
    show pAt f (m + k) (_ / _) ++ _ = pAt f m q ++ (pAt f k (r / (2 * f + 1)) ++ _)
    rw [e1, e2, pAt_split f m k q _ h3, List.append_assoc]
theorem pAt_one (f k : Nat) : -(f : Int) :: pAt f k 0 = pAt f (k + 1) 0 := by rw [pAt_zero, pAt_zero, List.replicate_succ]

/-- What the next pulse is like, if the last digit can be raised .. -/
theorem pAt_up (f i q : Nat) (h : -(f : Int) + (q % (2 * f + 1) : Nat) < f) : pAt f (i + 1) (q + 1) = pAt f i (q / (2 * f + 1)) ++ [-(f : Int) + (q % (2 * f + 1) : Nat) + 1] := by
  have h1 : q % (2 * f + 1) + 1 < 2 * f + 1 := by omega
  have e := Nat.div_add_mod q (2 * f + 1)
  have e2 : q + 1 = (2 * f + 1) * (q / (2 * f + 1)) + (q % (2 * f + 1) + 1) := by omega
  have e3 : (q + 1) / (2 * f + 1) = q / (2 * f + 1) := by
    rw [e2, Nat.mul_add_div (by omega), Nat.div_eq_of_lt h1, Nat.add_zero]
  have e4 : (q + 1) % (2 * f + 1) = q % (2 * f + 1) + 1 := by
    rw [e2, Nat.mul_add_mod, Nat.mod_eq_of_lt h1]
  simp only [pAt, e3, e4]
  congr 2
  push_cast
  omega
/-- .. and if not. -/
theorem carry (f q : Nat) (h : ¬ -(f : Int) + (q % (2 * f + 1) : Nat) < f) : q + 1 = (q / (2 * f + 1) + 1) * (2 * f + 1) := by
  have h0 := Nat.mod_lt q (show 0 < 2 * f + 1 by omega)
  have e := Nat.div_add_mod q (2 * f + 1)
  rw [Nat.add_mul, Nat.one_mul, Nat.mul_comm (q / (2 * f + 1))]
  generalize (2 * f + 1) * (q / (2 * f + 1)) = z at *
  generalize q % (2 * f + 1) = r at *
  omega

/-- A row of integers that is known whole. -/
def Row (w : World) (g : Nat) (xs : List Int) : Prop := Bx w g 3 (ints xs).toArray
section
variable {w w' : World} {g : Nat} {xs : List Int}
theorem Row.get (h : Row w g xs) {k : Nat} (hk : k < xs.length) : w.cell? ⟨g, k, none⟩ = some (.int .i64 (xs.getD k 0)) := by
  rw [Bx.cell h k]; simp [ints, hk]
theorem Row.set (h : Row w g xs) (k : Nat) (v : Int) : Row (w.setCell ⟨g, k, none⟩ (.int .i64 v)) g (xs.set k v) := by
  have := Bx.set h k (.int .i64 v)
  have e : (ints xs).toArray.setIfInBounds k (.int .i64 v) = (ints (xs.set k v)).toArray := by simp [ints]
  rw [e] at this
  exact this
theorem Row.rd (h : Row w g xs) : Rd w (some ⟨g, 0, none⟩) (ints xs) := by
  refine .inr ⟨g, 0, rfl, Bx.lt h, fun k v hv => ?_⟩
  rw [Nat.zero_add, Bx.cell h k]; simpa using hv
end
end Go.Proofs.Ytpjdojjdhbmbjaa
