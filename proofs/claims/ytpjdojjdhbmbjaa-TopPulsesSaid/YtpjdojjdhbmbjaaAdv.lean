/- The step from one pulse of a search to the next one. -/
import Derived.Test.YtpjdojjdhbmbjaaLeaf
import Derived.Test.YtpjdojjdhbmbjaaDig
namespace Go.Proofs.Ytpjdojjdhbmbjaa
open Go.RowKit

theorem last_get (l : List Int) (x : Int) (t : List Int) (j : Nat) (h : l.length = j) : ((l ++ [x]) ++ t).getD j 0 = x := by
  subst h; simp
theorem last_set (l : List Int) (x y : Int) (t : List Int) (j : Nat) (h : l.length = j) : ((l ++ [x]) ++ t).set j y = (l ++ [y]) ++ t := by
  subst h; simp

set_option maxHeartbeats 1000000 in
/-- advance, at the pulse of the number i: the next one, and whether there is one. -/
theorem advance_c (f n i g : Nat) (hf : f ≤ 2) (hn : n ≤ 6) (hi : i < (2 * f + 1) ^ n) (w : World) (hrow : Row w g (pAt f n i)) :
    Calls Try.prog 103 #[.slice (some ⟨g, 0, none⟩) n n, .int .i64 f] w fun e w' => ∃ b, e = .returned (.bool b) ∧ Mod (fun k => k = g) w w' ∧
      ((b = true ∧ i + 1 < (2 * f + 1) ^ n ∧ Row w' g (pAt f n (i + 1))) ∨ (b = false ∧ i + 1 = (2 * f + 1) ^ n ∧ ∃ xs, Row w' g xs)) := by
  go_enter Try.func103, Try.ntmps103
  go_wp2
  go_loopw [5] (fun jv wr => ∃ m k q : Nat, m + k = n ∧ jv = .int .i64 ((m : Int) - 1) ∧ Hid (i + 1 = (q + 1) * (2 * f + 1) ^ k) ∧ Row wr g (pAt f m q ++ pAt f k 0) ∧ Mod (fun k => k = g) w wr) (fun jv _ => (intOf jv + 1).toNat)
  case atStart => exact ⟨n, 0, i, rfl, rfl, by simp [Hid], by simpa [pAt] using hrow, Mod.refl _ _⟩
  case round =>
    obtain ⟨m, k, q, hmk, rfl, hq, hr, hm⟩ := hrel
    cases m with
    | zero =>
      obtain rfl : k = n := by omega
      have hend : i + 1 = (2 * f + 1) ^ k := by
        have h := hq.out
        have h0 : q = 0 := by
          rcases Nat.eq_zero_or_pos q with h0 | h0
          · exact h0
          · have : 2 * (2 * f + 1) ^ k ≤ (q + 1) * (2 * f + 1) ^ k := Nat.mul_le_mul_right _ (by omega)
            omega
        rw [h, h0]; omega
      have HE := Lib.hid hend
      clear hend
      go_wp2
      go_ret
      exact ⟨false, rfl, hm, .inr ⟨rfl, HE.out, _, hr⟩⟩
    | succ j =>
      have hcell := hr.get (k := j) (by simp [pAt_len]; omega)
      have hfree := Bx.free hr j
      have hset := hr.set j
      obtain ⟨v, hv⟩ : ∃ v, v = -(f : Int) + (q % (2 * f + 1) : Nat) := ⟨_, rfl⟩
      have e1 : pAt f (j + 1) q ++ pAt f k 0 = (pAt f j (q / (2 * f + 1)) ++ [v]) ++ pAt f k 0 := by rw [hv]; rfl
      have hlj := pAt_len f j (q / (2 * f + 1))
      rw [e1, last_get _ _ _ _ hlj] at hcell
      have hvb : -2 ≤ v ∧ v ≤ 2 := by
        have := Nat.mod_lt q (show 0 < 2 * f + 1 by omega)
        omega
      obtain ⟨hv1, hv2⟩ := hvb
      have HV := Lib.hid hv
      have ej : (((j + 1 : Nat) : Int) - 1) = (j : Int) := by omega
      rw [ej]
      have hjk : (j : Int) < (n : Int) := by omega
      by_cases hlt : v < (f : Int)
      · have hx : Hid (i + 1 < (2 * f + 1) ^ n ∧ ∀ w', Row w' g ((pAt f (j + 1) q ++ pAt f k 0).set j (v + 1)) → Row w' g (pAt f n (i + 1))) := by
          have hu : pAt f (j + 1) (q + 1) = _ := pAt_up f j q (by rw [← hv]; exact hlt)
          rw [← hv] at hu
          have e2 : (pAt f (j + 1) q ++ pAt f k 0).set j (v + 1) = pAt f (j + 1) (q + 1) ++ pAt f k 0 := by rw [e1, last_set _ _ _ _ _ hlj, hu]
          have e3 := pAt_split f (j + 1) k (q + 1) 0 (Nat.pow_pos (by omega))
          rw [Nat.add_zero, ← hq.out, show j + 1 + k = n from hmk] at e3
          refine ⟨?_, fun w' h => by rw [e2, ← e3] at h; exact h⟩
          have hq1 := hq.out
          have hd : (2 * f + 1) ^ n = (2 * f + 1) ^ j * (2 * f + 1) * (2 * f + 1) ^ k := by rw [← hmk, Nat.pow_add, Nat.pow_succ]
          rcases Nat.lt_or_ge (i + 1) ((2 * f + 1) ^ n) with h | h
          · exact h
          · exfalso
            have h2 : (q + 1) * (2 * f + 1) ^ k = (2 * f + 1) ^ j * (2 * f + 1) * (2 * f + 1) ^ k := by omega
            have h3 := Nat.eq_of_mul_eq_mul_right (Nat.pow_pos (by omega)) h2
            have h4 := Nat.mod_lt q (show 0 < 2 * f + 1 by omega)
            have h5 : (q + 1) % (2 * f + 1) = 0 := by rw [h3]; exact Nat.mul_mod_left _ _
            have h6 := Nat.add_mod q 1 (2 * f + 1)
            rw [Nat.mod_eq_of_lt (show q % (2 * f + 1) + 1 % (2 * f + 1) < 2 * f + 1 by have := Nat.mod_le 1 (2 * f + 1); omega)] at h6
            have h7 : 1 % (2 * f + 1) = 1 := Nat.mod_eq_of_lt (by omega)
            omega
        clear hv e1 hlj
        go_wp2
        go_ret
        exact ⟨true, rfl, hm.setCell (.inr rfl) _, .inl ⟨rfl, hx.out.1, hx.out.2 _ (hset _)⟩⟩
      · have hx : Hid (i + 1 = (q / (2 * f + 1) + 1) * (2 * f + 1) ^ (k + 1) ∧ (pAt f (j + 1) q ++ pAt f k 0).set j (-(f : Int)) = pAt f j (q / (2 * f + 1)) ++ pAt f (k + 1) 0) := by
          refine ⟨?_, by rw [e1, last_set _ _ _ _ _ hlj, ← pAt_one, List.append_assoc]; rfl⟩
          rw [hq.out, carry f q (by rw [← hv]; exact hlt), Nat.pow_succ, Nat.mul_assoc, Nat.mul_comm (2 * f + 1)]
        clear hv e1 hlj
        go_wp2
        go_roundw
        case rel => exact ⟨j, k + 1, q / (2 * f + 1), by omega, by go_num, hx.out.1, by rw [← hx.out.2]; exact hset _, hm.setCell (.inr rfl) _⟩
        case measure => simp [intOf]
end Go.Proofs.Ytpjdojjdhbmbjaa
