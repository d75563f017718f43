/- The angle of a type stays when gates are left out. -/
import Derived.Test.YteoajadcdjaalaaShortM
import Derived.Test.YteoajadcdjaalaaAngle
namespace Go.Proofs.Yteoajadcdjaalaa

def angS (l : List G) (g : G) : Int := ((l.filter fun x => decide (keyG x = keyG g)).map (·.2.2.2)).sum
theorem angS_append (l m : List G) (g : G) : angS (l ++ m) g = angS l g + angS m g := by
  unfold angS; rw [List.filter_append, List.map_append, List.sum_append]
theorem angS_cons (x : G) (l : List G) (g : G) : angS (x :: l) g = (if keyG x = keyG g then x.2.2.2 else 0) + angS l g := by
  unfold angS
  rw [List.filter_cons]
  by_cases h : keyG x = keyG g
  · rw [if_pos (by simpa using h), if_pos h]; simp
  · rw [if_neg (by simpa using h), if_neg h]; simp
theorem angS_nil (g : G) : angS [] g = 0 := rfl
theorem sumTo_ang (l : List G) (g : G) : ∀ k, k ≤ l.length → sumTo l g k = angS (l.take k) g
  | 0, _ => by simp [sumTo, angS]
  | k + 1, h => by
    have ih := sumTo_ang l g k (by omega)
    have ht : l.take (k + 1) = l.take k ++ [l.getD k g0] := by rw [List.take_succ_eq_append_getElem h]; simp [show k < l.length by omega]
    rw [sumTo, ih, ht, angS_append, angS_cons, angS_nil]
    by_cases hk : keyG (l.getD k g0) = keyG g
    · rw [if_pos ((typeG_iff _ _).2 hk), if_pos hk]; omega
    · rw [if_neg (fun h => hk ((typeG_iff _ _).1 h)), if_neg hk]; omega
theorem angS_with (c : List G) (h g : G) : angS (withL c h) g % 16 = (angS c g + angS [h] g) % 16 := by
  rcases with_split (c := c) (g := h) with ⟨p, x, s, rfl, hk, hu⟩ | hw
  · rw [with_merge hk hu, angS_append, angS_append, angS_append, angS_cons, angS_cons, angS_nil]
    have hm : angS (mrg x h) g % 16 = (if keyG x = keyG g then x.2.2.2 + h.2.2.2 else 0) % 16 := by
      unfold mrg
      split
      · rename_i h0
        simp only [sumW] at h0
        rw [angS_nil]; split <;> omega
      · rw [angS_cons, angS_nil, setW_key, setW_ang]; split <;> omega
    rw [← hk]
    generalize angS (mrg x h) g = z at *
    split at hm
    · rename_i hxg
      rw [if_pos hxg, if_pos hxg]; omega
    · rename_i hxg
      rw [if_neg hxg, if_neg hxg]; omega
  · rw [hw, angS_append]
theorem angS_fold : ∀ (l c : List G) (g : G), angS (l.foldl withL c) g % 16 = (angS c g + angS l g) % 16
  | [], c, g => by simp [angS_nil]
  | h :: l, c, g => by
    have h1 := angS_with c h g
    have h2 := angS_fold l (withL c h) g
    rw [List.foldl_cons, h2, angS_cons h l g]
    rw [angS_cons, angS_nil] at h1
    omega
theorem angS_short (l : List G) (g : G) : angS (shortL l) g % 16 = angS l g % 16 := by
  have := angS_fold l [] g
  rw [angS_nil, Int.zero_add] at this
  exact this
theorem sum_perm {l m : List Int} (h : l.Perm m) : l.sum = m.sum := by
  induction h with
  | nil => rfl
  | cons x _ ih => rw [List.sum_cons, List.sum_cons, ih]
  | swap x y l => rw [List.sum_cons, List.sum_cons, List.sum_cons, List.sum_cons]; omega
  | trans _ _ h1 h2 => exact h1.trans h2
theorem angS_perm {l m : List G} (h : l.Perm m) (g : G) : angS l g = angS m g := by
  unfold angS
  exact sum_perm ((h.filter _).map _)
theorem angS_red {c d : List G} (h : reducedL c = reducedL d) (g : G) : angS c g % 16 = angS d g % 16 := by
  have h1 : (shortL c).Perm (shortL d) := (name_perm (shortL c)).symm.trans (by
    have := name_perm (shortL d)
    unfold reducedL at h
    rw [← h] at this; exact this)
  rw [← angS_short c, ← angS_short d, angS_perm h1]
/-- Equal circuits have the same angle of each type. -/
theorem angle_red {n : Int} {c d : List G} (hc : validE n c = 0) (hd : validE n d = 0) (h : reducedL c = reducedL d) {g : G} (hg : gateB n g = true) : angleE n c g = angleE n d g ∧ withE n c [g] = 0 ∧ withE n d [g] = 0 := by
  have h1 : withE n c [g] = 0 := by rw [withE, if_pos hc, gatesE]; simp [hg]
  have h2 : withE n d [g] = 0 := by rw [withE, if_pos hd, gatesE]; simp [hg]
  refine ⟨?_, h1, h2⟩
  rw [angleE, angleE, if_pos h1, if_pos h2, sumTo_ang c g _ (Nat.le_refl _), sumTo_ang d g _ (Nat.le_refl _), List.take_length, List.take_length]
  exact angS_red h g
end Go.Proofs.Yteoajadcdjaalaa
