/- Mathematics of what is left of a circuit: gates that act on alike circuits. -/
import Derived.Test.YteoajadcdjaalaaRname2
namespace Go.Proofs.Yteoajadcdjaalaa

theorem prj_append (x y : G) (c d : List G) : prj x y (c ++ d) = prj x y c ++ prj x y d := by unfold prj; rw [List.filter_append]
theorem alk_app {c c' d d' : List G} (h : alkL c c') (k : alkL d d') : alkL (c ++ d) (c' ++ d') := fun x y t => by rw [prj_append, prj_append, h x y t, k x y t]
theorem alk_app_r {c c' : List G} (h : alkL c c') (d : List G) : alkL (c ++ d) (c' ++ d) := alk_app h (alkL.refl d)
theorem alk_app_l (c : List G) {d d' : List G} (h : alkL d d') : alkL (c ++ d) (c ++ d') := alk_app (alkL.refl c) h
theorem alk_cancel {c d : List G} {x : List G} (h : alkL (c ++ x) (d ++ x)) : alkL c d := fun p q t => by
  have := h p q t
  rw [prj_append, prj_append] at this
  exact List.append_cancel_right this
theorem alk_perm {c d : List G} (h : alkL c d) : c.Perm d := by
  have e := (alk_iff c d).1 h
  exact (name_perm c).symm.trans (e ▸ name_perm d)
theorem alk_len {c d : List G} (h : alkL c d) : c.length = d.length := (alk_perm h).length_eq

/-- None of them is tied to g. -/
def Unt (s : List G) (g : G) : Prop := ∀ y ∈ s, tiedG y g = false
theorem Unt.key {s : List G} {g h : G} (hs : Unt s g) (k : keyG g = keyG h) : Unt s h := fun y hy => by rw [← tiedG_key' k]; exact hs y hy
/-- A gate goes past others. -/
theorem alk_move {x : G} {s : List G} (h : Unt s x) : alkL (x :: s) (s ++ [x]) := fun p q t => by
  rw [prj_append, prj_cons, prj_cons]
  cases hx : inPr p q x with
  | false => simp [prj]
  | true =>
    have hs : prj p q s = [] := by
      unfold prj
      rw [List.filter_eq_nil_iff]
      intro y hy hyp
      have h1 := h y hy
      rw [inPr_tied t hyp hx] at h1; cases h1
    rw [hs]; simp [prj]
theorem alk_last {p s : List G} {x : G} (h : Unt s x) : alkL (p ++ x :: s) (p ++ s ++ [x]) := by
  have := alk_app_l p (alk_move h)
  rwa [← List.append_assoc] at this

theorem tail_cases (g : G) : ∀ (c : List G), Unt c g ∨ ∃ p x s, c = p ++ x :: s ∧ tiedG x g = true ∧ Unt s g
  | [] => .inl (fun y hy => by cases hy)
  | a :: t => by
    rcases tail_cases g t with h | ⟨p, x, s, rfl, h1, h2⟩
    · cases ha : tiedG a g with
      | false => exact .inl (fun y hy => by rcases List.mem_cons.1 hy with rfl | hy; exact ha; exact h y hy)
      | true => exact .inr ⟨[], a, t, rfl, ha, h⟩
    · exact .inr ⟨a :: p, x, s, rfl, h1, h2⟩
/-- What may come last. -/
theorem alk_end {c c' : List G} {x : G} (h : alkL c (c' ++ [x])) : ∃ p s, c = p ++ x :: s ∧ Unt s x ∧ alkL (p ++ s) c' := by
  rcases tail_cases x c with hu | ⟨p, y, s, rfl, ht, hu⟩
  · exfalso
    have h1 := h x x (tiedG_type rfl)
    rw [prj_append, prj_cons, if_pos (by simp [inPr])] at h1
    have h2 : prj x x c = [] := by
      unfold prj
      rw [List.filter_eq_nil_iff]
      intro y hy hyp
      have h3 := hu y hy
      rw [tiedG_type (by rcases (inPr_iff x x y).1 hyp with e | e <;> exact e)] at h3; cases h3
    rw [h2] at h1
    simp [prj] at h1
  · have h1 := h x y (by rw [tiedG_symm]; exact ht)
    have hs : prj x y s = [] := by
      unfold prj
      rw [List.filter_eq_nil_iff]
      intro z hz hzp
      have h3 := hu z hz
      rw [inPr_tied (by rw [tiedG_symm]; exact ht) hzp (by simp [inPr])] at h3; cases h3
    rw [prj_append, prj_append, prj_cons, prj_cons, if_pos (by simp [inPr]), if_pos (by simp [inPr]), hs] at h1
    have hn : prj x y [] = [] := rfl
    rw [hn] at h1
    have hyx : y = x := by
      have := congrArg List.getLast? h1
      simpa using this
    subst hyx
    refine ⟨p, s, rfl, hu, ?_⟩
    exact alk_cancel ((alk_last hu).symm.trans h)

/-- What two gates of one type make. -/
def mrg (x g : G) : List G := if sumW x g = 0 then [] else [setW x g]
theorem setW_key (x g : G) : keyG (setW x g) = keyG x := rfl
theorem mrg_key {x g z : G} (h : z ∈ mrg x g) : keyG z = keyG x := by
  unfold mrg at h
  split at h
  · cases h
  · rw [List.mem_singleton.1 h]; rfl

theorem findW_skip {q s : List G} {g : G} (hs : Unt s g) : ∀ k, k ≤ s.length → findW (q ++ s) g (q.length + k) = findW (q ++ s) g q.length
  | 0, _ => rfl
  | k + 1, h => by
    have ih := findW_skip (q := q) hs k (by omega)
    have hx : (q ++ s).getD (q.length + k) g0 = s[k] := by
      rw [List.getD_eq_getElem?_getD, List.getElem?_append_right (by omega), Nat.add_sub_cancel_left, List.getElem?_eq_getElem (by omega)]; rfl
    have ht := hs s[k] (List.getElem_mem _)
    rw [tiedG, Bool.or_eq_false_iff] at ht
    rw [← Nat.add_assoc, findW, hx, ht.1, if_neg (by simp), if_pos (by simpa using ht.2)]
    exact ih
theorem with_merge {p s : List G} {x g : G} (hk : keyG x = keyG g) (hs : Unt s g) : withL (p ++ x :: s) g = p ++ mrg x g ++ s := by
  have hx : (p ++ x :: s).getD p.length g0 = x := by
    rw [List.getD_eq_getElem?_getD, List.getElem?_append_right (Nat.le_refl _), Nat.sub_self]; rfl
  have hf : findW (p ++ x :: s) g (p ++ x :: s).length = some p.length := by
    have h1 := findW_skip (q := p ++ [x]) hs s.length (Nat.le_refl _)
    rw [List.append_assoc, List.singleton_append, List.length_append, List.length_singleton] at h1
    rw [List.length_append, List.length_cons, show p.length + (s.length + 1) = p.length + 1 + s.length by omega, h1, findW, hx, if_pos ((typeG_iff x g).2 hk)]
  rw [withL_some hf, hx]
  unfold mrg
  split
  · rw [List.eraseIdx_append_of_length_le (Nat.le_refl _), Nat.sub_self]; simp
  · rw [List.set_append_right _ _ (Nat.le_refl _), Nat.sub_self]; simp
theorem findW_found {l : List G} {g : G} : ∀ (k j : Nat), findW l g k = some j → j < k ∧ keyG (l.getD j g0) = keyG g ∧ ∀ i, j < i → i < k → tiedG (l.getD i g0) g = false
  | 0, j, h => by simp [findW] at h
  | k + 1, j, h => by
    rw [findW] at h
    split at h
    · rename_i ht
      cases h
      exact ⟨by omega, (typeG_iff _ _).1 ht, fun i h1 h2 => by omega⟩
    · rename_i ht
      split at h
      · rename_i hc
        obtain ⟨h1, h2, h3⟩ := findW_found k j h
        refine ⟨by omega, h2, fun i hi hik => ?_⟩
        rcases Nat.lt_or_ge i k with hlt | hge
        · exact h3 i hi hlt
        · obtain rfl : i = k := by omega
          rw [tiedG]
          simp only [Bool.not_eq_true] at ht
          rw [ht, hc]; rfl
      · cases h
theorem with_split {c : List G} {g : G} : (∃ p x s, c = p ++ x :: s ∧ keyG x = keyG g ∧ Unt s g) ∨ withL c g = c ++ [g] := by
  cases hf : findW c g c.length with
  | none => exact .inr (withL_none hf)
  | some j =>
    obtain ⟨h1, h2, h3⟩ := findW_found _ _ hf
    refine .inl ⟨c.take j, c.getD j g0, c.drop (j + 1), ?_, h2, fun y hy => ?_⟩
    · have hx : c.getD j g0 = c[j] := by simp [h1]
      rw [hx, ← List.drop_eq_getElem_cons h1, List.take_append_drop]
    · obtain ⟨i, hi, rfl⟩ := List.mem_iff_getElem.1 hy
      have hi' : j + 1 + i < c.length := by simp at hi; omega
      have := h3 (j + 1 + i) (by omega) hi'
      have e : c.getD (j + 1 + i) g0 = (c.drop (j + 1))[i] := by simp [hi']
      rwa [e] at this

/-- Whether a gate of g's type may come last. -/
def Exp (c : List G) (g : G) : Prop := ∃ c' x, keyG x = keyG g ∧ alkL c (c' ++ [x])
theorem Exp.alk {c d : List G} {g : G} (h : alkL c d) : Exp c g → Exp d g := fun ⟨c', x, k, a⟩ => ⟨c', x, k, h.symm.trans a⟩
theorem mrg_move {p s : List G} {x g : G} (hs : Unt s x) : alkL (p ++ mrg x g ++ s) (p ++ s ++ mrg x g) := by
  unfold mrg
  split
  · simp; exact alkL.refl _
  · have := alk_last (p := p) (s := s) (x := setW x g) (hs.key (setW_key x g).symm)
    rw [List.append_assoc, List.singleton_append]; exact this
theorem with_exp {c c' : List G} {x g : G} (hk : keyG x = keyG g) (h : alkL c (c' ++ [x])) : alkL (withL c g) (c' ++ mrg x g) := by
  obtain ⟨p, s, rfl, hu, ha⟩ := alk_end h
  rw [with_merge hk (hu.key hk)]
  exact (mrg_move hu).trans (alk_app_r ha _)
theorem with_not {c : List G} {g : G} (h : ¬ Exp c g) : withL c g = c ++ [g] := by
  rcases with_split (c := c) (g := g) with ⟨p, x, s, rfl, hk, hu⟩ | h1
  · exact absurd ⟨p ++ s, x, hk, alk_last (hu.key hk.symm)⟩ h
  · exact h1
theorem with_alk {c d : List G} (h : alkL c d) (g : G) : alkL (withL c g) (withL d g) := by
  by_cases he : Exp c g
  · obtain ⟨c', x, hk, ha⟩ := he
    exact (with_exp hk ha).trans (with_exp hk (h.symm.trans ha)).symm
  · rw [with_not he, with_not (fun hd => he (hd.alk h.symm))]
    exact alk_app_r h _
theorem key_ne {g h : G} (ht : tiedG g h = false) : keyG g ≠ keyG h := fun e => by rw [tiedG_type e] at ht; cases ht
theorem alk_swap {g h : G} (ht : tiedG g h = false) : alkL [g, h] [h, g] := alk_move (x := g) (s := [h]) (fun y hy => by rw [List.mem_singleton.1 hy, tiedG_symm]; exact ht)
/-- A gate of another type that may come last behind z may do so before it, too. -/
theorem exp_snoc {c : List G} {z y : G} {c2 : List G} (hne : keyG z ≠ keyG y) (h : alkL (c ++ [z]) (c2 ++ [y])) : ∃ c3, alkL c (c3 ++ [y]) := by
  obtain ⟨p, s, he, hu, _⟩ := alk_end h
  rcases List.eq_nil_or_concat s with rfl | ⟨s', z', rfl⟩
  · have := List.append_inj_right' he rfl
    cases this
    exact absurd rfl hne
  · have he' : c ++ [z] = (p ++ y :: s') ++ [z'] := by rw [he]; simp
    obtain ⟨h1, h2⟩ := List.append_inj' he' rfl
    subst h1
    exact ⟨p ++ s', alk_last (fun w hw => hu w (by simp [hw]))⟩
theorem mrg_swap {x g y h : G} (ht : tiedG x y = false) : alkL (mrg x g ++ mrg y h) (mrg y h ++ mrg x g) := by
  unfold mrg
  split
  · simp; exact alkL.refl _
  · split
    · simp; exact alkL.refl _
    · exact alk_swap (by rw [tiedG_key (setW_key x g), tiedG_key' (setW_key y h)]; exact ht)
theorem mrg_swap1 {x g y : G} (ht : tiedG x y = false) : alkL (mrg x g ++ [y]) ([y] ++ mrg x g) := by
  unfold mrg
  split
  · simp; exact alkL.refl _
  · exact alk_swap (by rw [tiedG_key (setW_key x g)]; exact ht)
theorem with_comm_aux {c : List G} {g h : G} (ht : tiedG g h = false) (hg : Exp c g) (hh : ¬ Exp c h) : alkL (withL (withL c g) h) (withL (withL c h) g) := by
  obtain ⟨c1, x, hk, ha⟩ := hg
  have hxh : tiedG x h = false := by rw [tiedG_key hk]; exact ht
  have h1 := with_exp hk ha
  have hne : ¬ Exp (c1 ++ mrg x g) h := by
    rintro ⟨c2, y, hky, hy⟩
    apply hh
    have hxy : tiedG x y = false := by rw [tiedG_key' hky]; exact hxh
    have key : ∃ c3, alkL c1 (c3 ++ [y]) := by
      unfold mrg at hy
      split at hy
      · exact ⟨c2, by simpa using hy⟩
      · exact exp_snoc (by rw [setW_key]; exact key_ne hxy) hy
    obtain ⟨c3, h3⟩ := key
    refine ⟨c3 ++ [x], y, hky, ?_⟩
    have := (ha.trans (alk_app_r h3 [x])).trans (by rw [List.append_assoc]; exact alk_app_l c3 (alk_swap (g := y) (h := x) (by rw [tiedG_symm]; exact hxy)))
    simpa using this
  have h2 : alkL (withL (withL c g) h) (c1 ++ mrg x g ++ [h]) := (with_alk h1 h).trans (by rw [with_not hne]; exact alkL.refl _)
  have h3 : withL c h = c ++ [h] := with_not hh
  have h4 : alkL (c ++ [h]) (c1 ++ [h] ++ [x]) := by
    refine (alk_app_r ha [h]).trans ?_
    rw [List.append_assoc, List.append_assoc]
    exact alk_app_l c1 (alk_swap hxh)
  rw [h3]
  refine h2.trans ?_
  refine alkL.trans ?_ (with_exp hk h4).symm
  rw [List.append_assoc, List.append_assoc]
  exact alk_app_l c1 (mrg_swap1 hxh)
/-- Gates that commute act in either order. -/
theorem with_comm (c : List G) {g h : G} (ht : tiedG g h = false) : alkL (withL (withL c g) h) (withL (withL c h) g) := by
  by_cases hg : Exp c g
  · by_cases hh : Exp c h
    · obtain ⟨c1, x, hkx, hx⟩ := hg
      obtain ⟨c2, y, hky, hy⟩ := hh
      have hxy : tiedG x y = false := by rw [tiedG_key hkx, tiedG_key' hky]; exact ht
      obtain ⟨c3, h3⟩ := exp_snoc (key_ne hxy) (hx.symm.trans hy)
      have e1 : alkL c (c3 ++ [y] ++ [x]) := hx.trans (alk_app_r h3 _)
      have e2 : alkL c (c3 ++ [x] ++ [y]) := e1.trans (by rw [List.append_assoc, List.append_assoc]; exact alk_app_l c3 (alk_swap (by rw [tiedG_symm]; exact hxy)))
      have f1 : alkL (withL c g) (c3 ++ mrg x g ++ [y]) := (with_exp hkx e1).trans (by
        rw [List.append_assoc, List.append_assoc]; exact alk_app_l c3 (mrg_swap1 hxy).symm)
      have f2 : alkL (withL c h) (c3 ++ mrg y h ++ [x]) := (with_exp hky e2).trans (by
        rw [List.append_assoc, List.append_assoc]; exact alk_app_l c3 (mrg_swap1 (by rw [tiedG_symm]; exact hxy)).symm)
      refine (with_exp hky f1).trans (alkL.trans ?_ (with_exp hkx f2).symm)
      rw [List.append_assoc, List.append_assoc]
      exact alk_app_l c3 (mrg_swap hxy)
    · exact with_comm_aux ht hg hh
  · by_cases hh : Exp c h
    · exact (with_comm_aux (by rw [tiedG_symm]; exact ht) hh hg).symm
    · have n1 : ¬ Exp (c ++ [g]) h := by
        rintro ⟨c2, y, hky, hy⟩
        obtain ⟨c3, h3⟩ := exp_snoc (by rw [hky]; exact key_ne ht) hy
        exact hh ⟨c3, y, hky, h3⟩
      have n2 : ¬ Exp (c ++ [h]) g := by
        rintro ⟨c2, y, hky, hy⟩
        obtain ⟨c3, h3⟩ := exp_snoc (by rw [hky]; exact (key_ne ht).symm) hy
        exact hg ⟨c3, y, hky, h3⟩
      rw [with_not hg, with_not hh, with_not n1, with_not n2, List.append_assoc, List.append_assoc]
      exact alk_app_l c (alk_swap ht)
end Go.Proofs.Yteoajadcdjaalaa
