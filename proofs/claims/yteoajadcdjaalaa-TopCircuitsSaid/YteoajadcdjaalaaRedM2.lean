/- Mathematics of what is left of a circuit: short circuits; gates of one type; the order of reduction. -/
import Derived.Test.YteoajadcdjaalaaRedM
namespace Go.Proofs.Yteoajadcdjaalaa

/-- No two gates of one type can be brought together. -/
def Sh (c : List G) : Prop := ∀ p s x y, keyG x = keyG y → ¬ alkL c (p ++ [x, y] ++ s)
theorem Sh.alk {c d : List G} (h : alkL c d) (hs : Sh c) : Sh d := fun p s x y k a => hs p s x y k (h.trans a)
theorem Sh.nil : Sh [] := fun p s x y _ h => by have := alk_len h; simp at this
/-- Where the last gate lies among others that are alike. -/
theorem sh_snoc {c : List G} {z : G} {p s : List G} {x y : G} (k : keyG x = keyG y) (hs : Sh c) (h : alkL (c ++ [z]) (p ++ [x, y] ++ s)) : z = y ∧ Unt s y ∧ alkL c (p ++ [x] ++ s) := by
  obtain ⟨p1, s1, he, hu, ha⟩ := alk_end h.symm
  -- p ++ [x, y] ++ s = p1 ++ z :: s1
  have hc : alkL c (p1 ++ s1) := ha.symm
  rw [List.append_assoc] at he
  rcases List.append_eq_append_iff.1 he with ⟨q, h1, h2⟩ | ⟨q, h1, h2⟩
  · -- p1 = p ++ q, [x, y] ++ s = q ++ z :: s1
    subst h1
    match q, h2 with
    | [], h2 =>
      simp only [List.cons_append, List.nil_append, List.cons.injEq] at h2
      obtain ⟨rfl, rfl⟩ := h2
      have := hu y (by simp)
      rw [tiedG_type k.symm] at this; cases this
    | [a], h2 =>
      simp only [List.cons_append, List.nil_append, List.cons.injEq] at h2
      obtain ⟨rfl, rfl, rfl⟩ := h2
      exact ⟨rfl, hu, by simpa using hc⟩
    | a :: b :: q', h2 =>
      simp only [List.cons_append, List.nil_append, List.cons.injEq] at h2
      obtain ⟨rfl, rfl, rfl⟩ := h2
      exfalso
      refine hs p (q' ++ s1) x y k ?_
      simpa using hc
  · -- p = p1 ++ q, z :: s1 = q ++ ([x, y] ++ s)
    subst h1
    match q, h2 with
    | [], h2 =>
      simp only [List.cons_append, List.nil_append, List.cons.injEq] at h2
      obtain ⟨rfl, rfl⟩ := h2
      have := hu y (by simp)
      rw [tiedG_type k.symm] at this; cases this
    | a :: q', h2 =>
      simp only [List.cons_append, List.nil_append, List.cons.injEq] at h2
      obtain ⟨rfl, rfl⟩ := h2
      exfalso
      refine hs (p1 ++ q') s x y k ?_
      simpa using hc
theorem Sh.pre {c : List G} {x : G} (h : Sh (c ++ [x])) : Sh c := fun p s y z k a => h p (s ++ [x]) y z k (by
  have := alk_app_r a [x]
  simpa using this)
theorem with_sh {c : List G} (h : Sh c) (g : G) : Sh (withL c g) := by
  by_cases he : Exp c g
  · obtain ⟨c', x, hk, ha⟩ := he
    have hs' : Sh c' := Sh.pre (h.alk ha)
    refine Sh.alk (with_exp hk ha).symm ?_
    unfold mrg
    split
    · rw [List.append_nil]; exact hs'
    · intro p s y z k a
      obtain ⟨e, hu, hc⟩ := sh_snoc k hs' a
      refine (h.alk ha) p s y x (by rw [k, ← e]; exact setW_key x g) ?_
      have h1 := alk_app_r hc [x]
      refine h1.trans ?_
      have hux : Unt s x := hu.key (by rw [← e]; exact setW_key x g)
      have := (alk_last (p := p ++ [y]) hux).symm
      simpa using this
  · rw [with_not he]
    intro p s y z k a
    obtain ⟨e, hu, hc⟩ := sh_snoc k h a
    refine he ⟨p ++ s, y, by rw [k, e], ?_⟩
    have hy : Unt s y := hu.key k.symm
    have := alk_last (p := p) hy
    exact hc.trans (by simpa using this)
theorem fold_sh : ∀ (d c : List G), Sh c → Sh (d.foldl withL c)
  | [], _, h => h
  | g :: d, c, h => by rw [List.foldl_cons]; exact fold_sh d _ (with_sh h g)
theorem short_sh (d : List G) : Sh (shortL d) := fold_sh d [] Sh.nil
theorem fold_alk : ∀ (l : List G) {c d : List G}, alkL c d → alkL (l.foldl withL c) (l.foldl withL d)
  | [], _, _, h => h
  | g :: l, _, _, h => by rw [List.foldl_cons, List.foldl_cons]; exact fold_alk l (with_alk h g)
/-- A short circuit is what is left of itself. -/
theorem short_fold : ∀ (d c : List G), Sh (c ++ d) → d.foldl withL c = c ++ d
  | [], c, _ => by simp
  | g :: d, c, h => by
    have hn : ¬ Exp c g := by
      rintro ⟨c', x, k, a⟩
      refine h c' d x g k ?_
      have := alk_app_r a (g :: d)
      simpa using this
    rw [List.foldl_cons, with_not hn, short_fold d (c ++ [g]) (by simpa using h)]
    simp
theorem short_id {d : List G} (h : Sh d) : shortL d = d := by
  have := short_fold d [] (by simpa using h)
  simpa [shortL] using this

/-- Gates go past another one. -/
theorem fold_comm : ∀ (q c : List G) {x : G}, Unt q x → alkL (q.foldl withL (withL c x)) (withL (q.foldl withL c) x)
  | [], _, _, _ => alkL.refl _
  | y :: q, c, x, h => by
    rw [List.foldl_cons, List.foldl_cons]
    have h1 : tiedG x y = false := by rw [tiedG_symm]; exact h y (by simp)
    exact (fold_alk q (with_comm c h1)).trans (fold_comm q (withL c y) (fun z hz => h z (by simp [hz])))
/-- Alike circuits act alike. -/
theorem fold_front {l : List G} {i : Nat} (hi : i < l.length) (hf : freeB l i = true) (c : List G) : alkL (l.foldl withL c) ((l.getD i g0 :: l.eraseIdx i).foldl withL c) := by
  have hx : l.getD i g0 = l[i] := by simp [hi]
  have hl : l = l.take i ++ l[i] :: l.drop (i + 1) := by rw [← List.drop_eq_getElem_cons hi]; exact (List.take_append_drop i l).symm
  have hu : Unt (l.take i) l[i] := by
    intro y hy
    obtain ⟨j, hj, rfl⟩ := List.mem_iff_getElem.1 hy
    have hji : j < i := by simp at hj; omega
    have := (freeB_iff l i).1 hf j hji
    rw [hx] at this
    have e : l.getD j g0 = (l.take i)[j] := by simp [show j < l.length by omega]
    rwa [e] at this
  rw [hx, List.eraseIdx_eq_take_drop_succ]
  conv => lhs; rw [hl]
  rw [List.foldl_append, List.foldl_cons, List.foldl_cons, List.foldl_append]
  exact fold_alk _ (fold_comm _ c hu).symm
theorem fold_nm : ∀ (k : Nat) (l : List G), l.length = k → ∀ c, alkL (l.foldl withL c) ((nmTo k l).foldl withL c)
  | 0, l, h, c => by rw [List.length_eq_zero_iff.1 h]; exact alkL.refl _
  | k + 1, l, h, c => by
    have hne : l ≠ [] := by rintro rfl; simp at h
    have hb := bstL_lt hne
    refine (fold_front hb (bstTo_free l _) c).trans ?_
    rw [nmTo, List.foldl_cons, List.foldl_cons]
    exact fold_nm k _ (by rw [List.length_eraseIdx]; simp [hb]; omega) _
theorem fold_alk2 {l m : List G} (h : alkL l m) (c : List G) : alkL (l.foldl withL c) (m.foldl withL c) := by
  obtain ⟨h1, h2⟩ := nm_alk l.length l m rfl h
  exact (fold_nm l.length l rfl c).trans (by rw [h2]; exact (fold_nm l.length m h1 c).symm)
theorem short_alk {l m : List G} (h : alkL l m) : alkL (shortL l) (shortL m) := fold_alk2 h []

def AngL (l : List G) : Prop := ∀ x ∈ l, Ang x
theorem AngL.alk {c d : List G} (h : alkL c d) (hc : AngL c) : AngL d := fun x hx => hc x ((alk_perm h).mem_iff.2 hx)
theorem fold_ang : ∀ (l c : List G), AngL l → AngL c → AngL (l.foldl withL c)
  | [], _, _, h => h
  | g :: l, c, hl, h => by rw [List.foldl_cons]; exact fold_ang l _ (fun x hx => hl x (by simp [hx])) (withL_ang h (hl g (by simp)))
theorem sumW_eq (x g h : G) : sumW (setW x g) h = (x.2.2.2 + g.2.2.2 + h.2.2.2) % 16 := by
  simp only [sumW, setW]; omega
theorem gate_ext {x y : G} (h1 : keyG x = keyG y) (h2 : x.2.2.2 = y.2.2.2) : x = y := by
  obtain ⟨a, b, c, d⟩ := x
  obtain ⟨a', b', c', d'⟩ := y
  simp only [keyG, Prod.mk.injEq] at h1
  simp only [Prod.mk.injEq]
  exact ⟨h1.1, h1.2.1, h1.2.2, h2⟩
theorem setW_ang (x g : G) : (setW x g).2.2.2 = (x.2.2.2 + g.2.2.2) % 16 := rfl
/-- Two gates of one type act as one, or as none. -/
theorem with_two {c : List G} (hs : Sh c) (hc : AngL c) {g g' : G} (hk : keyG g = keyG g') (hg : Ang g) (hg' : Ang g') :
    alkL (withL (withL c g) g') (if sumW g g' = 0 then c else withL c (setW g g')) := by
  unfold Ang at hg hg'
  by_cases he : Exp c g
  · obtain ⟨c', x, hx, ha⟩ := he
    have hax : Ang x := hc x ((alk_perm ha).mem_iff.2 (by simp))
    unfold Ang at hax
    have h1 := with_exp hx ha
    have h1' := with_alk h1 g'
    by_cases hm : sumW x g = 0
    · have hmr : mrg x g = [] := by unfold mrg; rw [if_pos hm]
      rw [hmr, List.append_nil] at h1'
      have hn : ¬ Exp c' g' := by
        rintro ⟨c2, y, hy, a2⟩
        refine hs c2 [] y x (by rw [hy, ← hk, hx]) ?_
        have := alk_app_r a2 [x]
        exact ha.trans (by simpa using this)
      rw [with_not hn] at h1'
      refine h1'.trans ?_
      simp only [sumW] at hm
      by_cases h0 : sumW g g' = 0
      · rw [if_pos h0]
        simp only [sumW] at h0
        have hxg : x = g' := gate_ext (by rw [hx, hk]) (by omega)
        rw [hxg] at ha
        exact ha.symm
      · rw [if_neg h0]
        simp only [sumW] at h0
        have h2 := with_exp (c := c) (c' := c') (x := x) (g := setW g g') (by rw [setW_key]; exact hx) ha
        refine alkL.trans ?_ h2.symm
        have hs0 : sumW x (setW g g') = g'.2.2.2 := by simp only [sumW, setW]; omega
        unfold mrg
        rw [if_neg (by rw [hs0]; omega)]
        have : setW x (setW g g') = g' := gate_ext (by rw [setW_key, hx, hk]) (by show sumW x (setW g g') = _; exact hs0)
        rw [this]; exact alkL.refl _
    · have hmr : mrg x g = [setW x g] := by unfold mrg; rw [if_neg hm]
      rw [hmr] at h1 h1'
      have h2 := with_exp (c := withL c g) (c' := c') (x := setW x g) (g := g') (by rw [setW_key, hx, hk]) h1
      refine h2.trans ?_
      by_cases h0 : sumW g g' = 0
      · rw [if_pos h0]
        simp only [sumW] at h0
        have h3 : sumW (setW x g) g' = x.2.2.2 := by rw [sumW_eq]; omega
        have : mrg (setW x g) g' = [x] := by
          unfold mrg
          rw [if_neg (by rw [h3]; omega)]
          rw [gate_ext (x := setW (setW x g) g') (y := x) rfl (by show sumW (setW x g) g' = _; exact h3)]
        rw [this]; exact ha.symm
      · rw [if_neg h0]
        have h4 := with_exp (c := c) (c' := c') (x := x) (g := setW g g') (by rw [setW_key]; exact hx) ha
        refine alkL.trans ?_ h4.symm
        have h5 : sumW (setW x g) g' = sumW x (setW g g') := by rw [sumW_eq]; simp only [sumW, setW]; omega
        have h6 : setW (setW x g) g' = setW x (setW g g') := gate_ext rfl (by show sumW (setW x g) g' = sumW x (setW g g'); exact h5)
        unfold mrg
        rw [h5, h6]; exact alkL.refl _
  · rw [with_not he]
    have h1 := with_exp (c := c ++ [g]) (c' := c) (x := g) (g := g') hk (alkL.refl _)
    refine h1.trans ?_
    unfold mrg
    by_cases h0 : sumW g g' = 0
    · rw [if_pos h0, if_pos h0, List.append_nil]; exact alkL.refl _
    · rw [if_neg h0, if_neg h0]
      have hn : ¬ Exp c (setW g g') := by
        rintro ⟨c2, y, hy, a2⟩
        exact he ⟨c2, y, by rw [hy, setW_key], a2⟩
      rw [with_not hn]; exact alkL.refl _
/-- What a circuit's last gate does to it does as much to what it acts on. -/
theorem fold_with {s d : List G} (hs : Sh s) (ha : AngL s) (hd : AngL d) {g : G} (hg : Ang g) : alkL ((withL d g).foldl withL s) (withL (d.foldl withL s) g) := by
  rcases with_split (c := d) (g := g) with ⟨p, x, q, rfl, hk, hu⟩ | h1
  · have hx : Ang x := hd x (by simp)
    have hux : Unt q x := hu.key hk.symm
    have ht : Sh (q.foldl withL (p.foldl withL s)) := fold_sh _ _ (fold_sh _ _ hs)
    have hat : AngL (q.foldl withL (p.foldl withL s)) := fold_ang _ _ (fun y hy => hd y (by simp [hy])) (fold_ang _ _ (fun y hy => hd y (by simp [hy])) ha)
    have h2 : alkL (withL ((p ++ x :: q).foldl withL s) g) (withL (withL (q.foldl withL (p.foldl withL s)) x) g) := by
      rw [List.foldl_append, List.foldl_cons]
      exact with_alk (fold_comm q _ hux) g
    refine alkL.trans ?_ (h2.trans (with_two ht hat hk hx hg)).symm
    rw [with_merge hk hu, List.append_assoc, List.foldl_append]
    unfold mrg
    split
    · exact alkL.refl _
    · rw [List.singleton_append, List.foldl_cons]
      exact fold_comm q _ (hux.key (setW_key x g).symm)
  · rw [h1, List.foldl_append]; exact alkL.refl _
/-- What is left of d acts as d does. -/
theorem fold_short {s : List G} (hs : Sh s) (ha : AngL s) : ∀ (k : Nat) (d : List G), d.length = k → AngL d → alkL ((shortL d).foldl withL s) (d.foldl withL s)
  | 0, d, h, _ => by rw [List.length_eq_zero_iff.1 h]; exact alkL.refl _
  | k + 1, d, h, hd => by
    rcases List.eq_nil_or_concat d with rfl | ⟨d', g, rfl⟩
    · simp at h
    · have hd' : AngL d' := fun x hx => hd x (by simp [hx])
      have hg : Ang g := hd g (by simp)
      have ih := fold_short hs ha k d' (by simpa using h) hd'
      have e : shortL (d' ++ [g]) = withL (shortL d') g := by unfold shortL; rw [List.foldl_append]; rfl
      have e2 : (d'.concat g) = d' ++ [g] := by simp
      rw [e2] at *
      rw [e, List.foldl_append]
      exact (fold_with hs ha (shortL_ang hd') hg).trans (with_alk ih g)
theorem short_append {c d : List G} : shortL (c ++ d) = d.foldl withL (shortL c) := by unfold shortL; rw [List.foldl_append]
/-- What is left of two circuits together is what is left of what is left of both. -/
theorem short_join {c d : List G} (hc : AngL c) (hd : AngL d) : alkL (shortL (c ++ d)) (shortL (shortL c ++ shortL d)) := by
  rw [short_append, short_append, short_id (short_sh c)]
  exact (fold_short (short_sh c) (shortL_ang hc) d.length d rfl hd).symm
theorem red_alk {c d : List G} (h : alkL (shortL c) (shortL d)) : reducedL c = reducedL d := (alk_iff _ _).1 h
theorem red_iff {c d : List G} : reducedL c = reducedL d ↔ alkL (shortL c) (shortL d) := (alk_iff _ _).symm
theorem alk_red (c : List G) : alkL (shortL c) (reducedL c) := alk_name _
/-- Nothing more is left out of what is left. -/
theorem red_again (c : List G) : reducedL (reducedL c) = reducedL c := red_alk (by
  have h1 := short_alk (alk_red c).symm
  rw [short_id (short_sh c)] at h1
  exact h1)
theorem short_red (c : List G) : (shortL (reducedL c)).length = (reducedL c).length := by
  have h1 := short_alk (alk_red c).symm
  rw [short_id (short_sh c)] at h1
  rw [alk_len h1, alk_len (alk_red c)]
end Go.Proofs.Yteoajadcdjaalaa
