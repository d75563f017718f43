/- Mathematics for the theorem of the whole stage: the orders of a circuit begin with its first gates; the inverse of what is left. -/
import Derived.Test.YteoajadcdjaalaaCntAll
import Derived.Test.YteoajadcdjaalaaRwith
import Derived.Test.YteoajadcdjaalaaInv
import Derived.Test.YteoajadcdjaalaaFirsts
namespace Go.Proofs.Yteoajadcdjaalaa

/-- The numbers but i. -/
def up (i k : Nat) : Nat := if k < i then k else k + 1
theorem up_ne (i k : Nat) : up i k ≠ i := by unfold up; split <;> omega
theorem up_lt {i k m : Nat} (hk : k < m) : up i k < m + 1 := by unfold up; split <;> omega
theorem up_inj {i j k : Nat} (h : up i j = up i k) : j = k := by unfold up at h; split at h <;> split at h <;> omega
theorem up_mono (i j k : Nat) : (up i j < up i k) = (j < k) := by apply propext; unfold up; split <;> split <;> omega
theorem up_ex {i j m : Nat} (h : j ≠ i) (hj : j < m + 1) (hi : i ≤ m) : ∃ k, k < m ∧ up i k = j := by
  by_cases hlt : j < i
  · exact ⟨j, by omega, by simp [up, hlt]⟩
  · exact ⟨j - 1, by omega, by unfold up; rw [if_neg (by omega)]; omega⟩
theorem sumN_up {f : Nat → Nat} {i : Nat} : ∀ {m : Nat}, i ≤ m → f i = 0 → sumN f (m + 1) = sumN (fun k => f (up i k)) m
  | 0, hi, h0 => by
    obtain rfl : i = 0 := by omega
    rw [sumN, sumN, sumN, h0]
  | m + 1, hi, h0 => by
    by_cases h : i = m + 1
    · subst h
      rw [sumN, h0, Nat.add_zero]
      exact sumN_congr _ fun k hk => by simp [up, hk]
    · rw [sumN, sumN_up (by omega : i ≤ m) h0, sumN]
      have : up i m = m + 1 := by unfold up; rw [if_neg (by omega)]
      rw [this]
theorem Fc_up {P Q : Nat → Nat → Bool} {m i : Nat} (hi : i ≤ m) (h : ∀ j k, j < m → k < m → Q j k = P (up i j) (up i k)) : ∀ n (S : Nat → Bool), S i = false → Fc P (m + 1) n S = Fc Q m n (fun k => S (up i k))
  | 0, _, _ => rfl
  | n + 1, S, hs => by
    rw [Fc, Fc, sumN_up (f := fun a => if firstB P (m + 1) S a = true then Fc P (m + 1) n (remB S a) else 0) hi]
    · refine sumN_congr m fun k hk => ?_
      have e1 : firstB P (m + 1) S (up i k) = firstB Q m (fun k => S (up i k)) k := by
        rw [Bool.eq_iff_iff, firstB_iff, firstB_iff]
        constructor
        · rintro ⟨h1, h2⟩
          exact ⟨h1, fun j hj sj => by rw [h j k hj hk]; exact h2 _ (up_lt hj) sj⟩
        · rintro ⟨h1, h2⟩
          refine ⟨h1, fun j hj sj => ?_⟩
          have hji : j ≠ i := by rintro rfl; rw [hs] at sj; cases sj
          obtain ⟨j', hj', rfl⟩ := up_ex hji hj hi
          rw [← h j' k hj' hk]; exact h2 j' hj' sj
      have e2 : (fun a => remB S (up i k) (up i a)) = remB (fun a => S (up i a)) k := by
        funext a
        rw [Bool.eq_iff_iff, remB_iff, remB_iff]
        constructor
        · rintro ⟨h1, h2⟩; exact ⟨h1, fun e => h2 (by rw [e])⟩
        · rintro ⟨h1, h2⟩; exact ⟨h1, fun e => h2 (up_inj e)⟩
      have e3 : remB S (up i k) i = false := by simp [remB, hs]
      rw [e1, Fc_up hi h n _ e3, e2]
    · have : firstB P (m + 1) S i = false := by simp [firstB, hs]
      simp [this]
theorem erase_getD (l : List G) (i k : Nat) : (l.eraseIdx i).getD k g0 = l.getD (up i k) g0 := by
  rw [List.getD_eq_getElem?_getD, List.getD_eq_getElem?_getD, List.getElem?_eraseIdx]
  unfold up; split <;> rfl
theorem cnt_erase {l : List G} {i : Nat} (h : i < l.length) : Fc (tb l) l.length (l.length - 1) (remB (fun _ => true) i) = cntL (l.eraseIdx i) := by
  obtain ⟨m, hm⟩ : ∃ m, l.length = m + 1 := ⟨l.length - 1, by omega⟩
  have hl : (l.eraseIdx i).length = m := by rw [List.length_eraseIdx, if_pos h]; omega
  rw [cntL_Fc, hl, hm, Nat.add_sub_cancel, Fc_up (Q := tb (l.eraseIdx i)) (i := i) (m := m) (by omega) ?_ m _ (by simp [remB])]
  · congr 1
    funext k
    simp [remB, up_ne]
  · intro j k _ _
    rw [tb, tb, erase_getD, erase_getD]
    simp only [up_mono]
theorem first_free {l : List G} {i : Nat} (h : i < l.length) : firstB (tb l) l.length (fun _ => true) i = freeB l i := by
  rw [Bool.eq_iff_iff, firstB_iff, freeB_iff]
  constructor
  · rintro ⟨_, h2⟩ j hj
    have := h2 j (by omega) rfl
    rw [tb] at this
    simpa [hj] using this
  · intro h2
    refine ⟨rfl, fun j hj _ => ?_⟩
    by_cases hji : j < i
    · rw [tb, h2 j hji]; simp
    · simp [tb, hji]
theorem cnt_sum {l : List G} (h : l ≠ []) : cntL l = sumN (fun i => if freeB l i = true then cntL (l.eraseIdx i) else 0) l.length := by
  have hp := List.length_pos_iff.2 h
  have e : Fc (tb l) l.length (l.length - 1 + 1) (fun _ => true) = cntL l := by rw [cntL_Fc]; congr 1; omega
  rw [← e, Fc]
  refine sumN_congr _ fun i hi => ?_
  rw [first_free hi, cnt_erase hi]
/-- The sum over places. -/
def psum (g : Nat → Nat) (F : List Int) : Nat := (F.map fun x => g x.toNat).sum
theorem psum_snoc (g : Nat → Nat) (F : List Int) (x : Int) : psum g (F ++ [x]) = psum g F + g x.toNat := by simp [psum]
theorem psum_fr (g : Nat → Nat) (l : List G) : ∀ t, psum g (frTo l t) = sumN (fun i => if freeB l i = true then g i else 0) t
  | 0 => rfl
  | t + 1 => by
    rw [frTo, sumN, ← psum_fr g l t]
    by_cases hf : freeB l t = true
    · rw [if_pos hf, if_pos hf, psum_snoc]; rfl
    · rw [if_neg hf, if_neg hf, Nat.add_zero]
theorem psum_take (g : Nat → Nat) {F : List Int} {k : Nat} (h : k < F.length) : psum g (F.take (k + 1)) = psum g (F.take k) + g (F.getD k 0).toNat := by
  rw [List.take_succ_eq_append_getElem h, psum_snoc]; simp [h]
theorem psum_le (g : Nat → Nat) (F : List Int) (k : Nat) : psum g (F.take k) ≤ psum g F := by
  have : psum g F = psum g (F.take k) + psum g (F.drop k) := by
    rw [psum, psum, psum, ← List.sum_append, ← List.map_append, List.take_append_drop]
  omega
theorem fr_place (l : List G) : ∀ t, t ≤ l.length → ∀ x ∈ frTo l t, ∃ j : Nat, j < t ∧ x = (j : Int) ∧ freeB l j = true
  | 0, _, x, h => by simp [frTo] at h
  | t + 1, ht, x, h => by
    have ih := fr_place l t (by omega)
    rw [frTo] at h
    split at h
    · rename_i hf
      rcases List.mem_append.1 h with h | h
      · obtain ⟨j, h1, h2⟩ := ih x h; exact ⟨j, by omega, h2⟩
      · exact ⟨t, by omega, List.mem_singleton.1 h, hf⟩
    · obtain ⟨j, h1, h2⟩ := ih x h; exact ⟨j, by omega, h2⟩
/-- What the theorem asks of the first places. -/
theorem top_firsts {n : Int} {l : List G} (hv : validE n l = 0) : ∃ F, firstsG n l = F ∧ F.length ≤ 10 ∧ (∀ k, k < F.length → ∃ j : Nat, F.getD k 0 = (j : Int) ∧ j < l.length ∧ validE n (l.eraseIdx j) = 0 ∧ cntL (l.eraseIdx j) ≤ 10000000000 ∧ bothE n l (l.getD j g0 :: l.eraseIdx j) = 0 ∧ alikeB n l (l.getD j g0 :: l.eraseIdx j) = true) ∧
    (0 < l.length → psum (fun i => cntL (l.eraseIdx i)) F = cntL l) ∧ (l.length = 0 → cntL l = 1) ∧ cntL l ≤ 10000000000 := by
  have h10 := (gatesE_ang hv).1
  have hF : firstsG n l = frTo l l.length := by rw [firstsG, if_pos hv]; exact firstsTo_fr l _ (Nat.le_refl _)
  refine ⟨_, hF, by have := frTo_len l l.length; omega, fun k hk => ?_, fun hp => ?_, fun h0 => ?_, oX_le _ h10⟩
  · have hm : (frTo l l.length).getD k 0 ∈ frTo l l.length := by simp [hk]
    obtain ⟨j, hj, he, hf⟩ := fr_place l l.length (Nat.le_refl _) _ hm
    have ha := alk_front hj hf
    have hp := alk_perm ha
    have hv1 : validE n (l.getD j g0 :: l.eraseIdx j) = 0 := by rw [← validE_perm hp]; exact hv
    have hb : bothE n l (l.getD j g0 :: l.eraseIdx j) = 0 := by rw [bothE, if_pos hv, hv1]
    have hel : (l.eraseIdx j).length ≤ l.length := by rw [List.length_eraseIdx]; split <;> omega
    refine ⟨j, he, hj, ?_, oX_le _ (by omega), hb, ?_⟩
    · exact validE_of hv hel fun x hx => validE_gates hv x (List.mem_of_mem_eraseIdx hx)
    · rw [alikeB, hb, (alk_iff _ _).1 ha]; simp [sameL]
  · rw [psum_fr, ← cnt_sum (List.length_pos_iff.1 hp)]
  · rw [List.length_eq_zero_iff.1 h0]; rfl

theorem inv_ang {l : List G} (h : AngL l) : AngL (invL l) := fun x hx => by
  simp only [invL, List.mem_map, List.mem_reverse] at hx
  obtain ⟨y, hy, rfl⟩ := hx
  have := h y hy
  unfold Ang at this ⊢
  simp only [backG]; omega
theorem red_join {c d : List G} (hc : AngL c) (hd : AngL d) : reducedL (c ++ d) = reducedL (reducedL c ++ reducedL d) := red_alk (by
  refine (short_join hc hd).trans (short_alk (alk_app (alk_red c) (alk_red d))))
theorem red_ang {l : List G} (h : AngL l) : AngL (reducedL l) := AngL.alk (alk_red l) (shortL_ang h)
theorem inv_none {l : List G} (h : AngL l) : reducedL (l ++ invL l) = [] := by
  have h1 := alk_nil (inv_nothing l.length l rfl h).symm
  rw [reducedL, h1]; rfl
theorem red_nil : reducedL [] = [] := rfl
/-- The inverse of what is left is equal to the inverse. -/
theorem red_inv {l : List G} (h : AngL l) : reducedL (invL l) = reducedL (invL (reducedL l)) := by
  have hL := red_ang h
  have hi := inv_ang h
  have hI := inv_ang hL
  have h1 : reducedL (l ++ invL (reducedL l)) = [] := by
    have e := red_join h hI
    have e2 := red_join hL hI
    rw [red_again] at e2
    rw [e, ← e2, inv_none hL]
  have h2 : reducedL (invL l ++ l) = [] := by
    have := inv_none hi
    rwa [invL_inv] at this
  have hA : AngL (l ++ invL (reducedL l)) := fun x hx => by
    rcases List.mem_append.1 hx with hx | hx
    · exact h x hx
    · exact hI x hx
  have hB : AngL (invL l ++ l) := fun x hx => by
    rcases List.mem_append.1 hx with hx | hx
    · exact hi x hx
    · exact h x hx
  have e1 : reducedL (invL l ++ (l ++ invL (reducedL l))) = reducedL (invL l) := by
    rw [red_join hi hA, h1, List.append_nil, red_again]
  have e2 : reducedL ((invL l ++ l) ++ invL (reducedL l)) = reducedL (invL (reducedL l)) := by
    rw [red_join hB hI, h2, List.nil_append, red_again]
  rw [← e1, ← e2, List.append_assoc]
/-- What the theorem asks of one circuit. -/
theorem top_one {n : Int} {l : List G} (hv : validE n l = 0) : nmL n l = nameL l ∧ validE n (nameL l) = 0 ∧ redL n l = reducedL l ∧ redL n (nameL l) = reducedL l ∧ validE n (reducedL l) = 0 ∧ invE n l = invL l ∧ invE n (reducedL l) = invL (reducedL l) ∧ validE n (invL l) = 0 ∧
    equalB n (invL l) (invL (reducedL l)) = true ∧ bothE n (invL l) (invL (reducedL l)) = 0 ∧ (nameL l).length = l.length ∧ (reducedL l).length ≤ l.length := by
  have ha := alk_name l
  have hn : validE n (nameL l) = 0 := by rw [← validE_perm (alk_perm ha)]; exact hv
  have hr := validE_red hv
  have hi := validE_inv hv
  have hir := validE_inv hr
  have hb : bothE n (invL l) (invL (reducedL l)) = 0 := by rw [bothE, if_pos hi, hir]
  refine ⟨by rw [nmL, if_pos hv], hn, by rw [redL, if_pos hv], ?_, hr, by rw [invE, if_pos hv], by rw [invE, if_pos hr], hi, ?_, hb, (alk_len ha).symm, ?_⟩
  · rw [redL, if_pos hn]; exact red_alk (short_alk ha.symm)
  · rw [equalB, hb, red_inv (gatesE_ang hv).2.1]; simp [sameL]
  · rw [red_len]; exact shortL_len l
/-- What the theorem asks of two circuits. -/
theorem top_two {n : Int} {l m : List G} (h : joinE n l m = 0) : validE n l = 0 ∧ validE n m = 0 ∧ joinG n l m = l ++ m ∧ redL n m = reducedL m ∧ joinE n (reducedL l) (reducedL m) = 0 ∧ joinG n (reducedL l) (reducedL m) = reducedL l ++ reducedL m ∧
    validE n (l ++ m) = 0 ∧ validE n (reducedL l ++ reducedL m) = 0 ∧ redL n (l ++ m) = reducedL (l ++ m) ∧ redL n (reducedL l ++ reducedL m) = reducedL (l ++ m) ∧ invE n m = invL m ∧ invE n (l ++ m) = invL (l ++ m) ∧ joinE n (invL m) (invL l) = 0 ∧ joinG n (invL m) (invL l) = invL (l ++ m) ∧ l.length + m.length ≤ 10 ∧ (reducedL (l ++ m)).length ≤ 10 := by
  obtain ⟨hb, h10, hj⟩ := joinE_zero h
  obtain ⟨hl, hm⟩ := bothE_zero hb
  have al := (gatesE_ang hl).2.1
  have am := (gatesE_ang hm).2.1
  have rl := validE_red hl
  have rm := validE_red hm
  have ll : (reducedL l).length ≤ l.length := by rw [red_len]; exact shortL_len l
  have lm : (reducedL m).length ≤ m.length := by rw [red_len]; exact shortL_len m
  have app : ∀ {a b : List G}, validE n a = 0 → validE n b = 0 → a.length + b.length ≤ 10 → validE n (a ++ b) = 0 ∧ joinE n a b = 0 ∧ joinG n a b = a ++ b := fun {a b} ha hb' hlen => by
    have hba : bothE n a b = 0 := by rw [bothE, if_pos ha, hb']
    have hje : joinE n a b = 0 := by rw [joinE, if_pos hba, if_neg (by omega)]
    refine ⟨?_, hje, (joinE_zero hje).2.2⟩
    have hin : inB n 1 4 = true := by
      cases hi : inB n 1 4
      · rw [validE, hi] at ha; simp at ha
      · rfl
    rw [validE, if_pos hin, if_pos (by simp; omega), gatesE, if_pos]
    rw [List.all_append, Bool.and_eq_true]
    exact ⟨(gatesE_ang ha).2.2, (gatesE_ang hb').2.2⟩
  obtain ⟨v1, _, _⟩ := app hl hm h10
  obtain ⟨v2, j2, g2⟩ := app rl rm (by omega)
  obtain ⟨_, j3, g3⟩ := app (validE_inv hm) (validE_inv hl) (by rw [invL_len, invL_len]; omega)
  have hii : invL m ++ invL l = invL (l ++ m) := by simp [invL]
  rw [hii] at g3
  refine ⟨hl, hm, hj, by rw [redL, if_pos hm], j2, g2, v1, v2, by rw [redL, if_pos v1], ?_, by rw [invE, if_pos hm], by rw [invE, if_pos v1], j3, g3, h10, ?_⟩
  · rw [redL, if_pos v2]; exact (red_join al am).symm
  · have : (reducedL (l ++ m)).length ≤ (l ++ m).length := by rw [red_len]; exact shortL_len _
    rw [List.length_append] at this; omega
end Go.Proofs.Yteoajadcdjaalaa
