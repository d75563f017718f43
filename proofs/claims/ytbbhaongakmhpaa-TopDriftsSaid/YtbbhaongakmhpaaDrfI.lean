/- Readings with one more, of one value: which values agree. Lists and numbers alone. -/
import Derived.Test.YtbbhaongakmhpaaDrfX
namespace Go.Proofs.Ytbbhaongakmhpaa

def insK (l : List T3) (a : Nat) (e : T3) : List T3 := l.take a ++ ([e] ++ l.drop a)
theorem insK_length {l : List T3} {a : Nat} {e : T3} (ha : a ≤ l.length) : (insK l a e).length = l.length + 1 := by simp [insK]; omega
theorem ins_lt {l : List T3} {a i : Nat} {e : T3} (ha : a ≤ l.length) (hi : i < a) : (insK l a e).getD i t0 = l.getD i t0 := by
  have h1 : i < l.length := by omega
  simp [insK, List.getElem?_append, h1, show i < min a l.length by omega]
theorem ins_eq {l : List T3} {a : Nat} {e : T3} (ha : a ≤ l.length) : (insK l a e).getD a t0 = e := by
  have h2 : min a l.length = a := by omega
  simp [insK, h2]
theorem ins_gt {l : List T3} {a i : Nat} {e : T3} (ha : a ≤ l.length) (hi : a ≤ i) : (insK l a e).getD (i + 1) t0 = l.getD i t0 := by
  have h2 : min a l.length = a := by omega
  simp only [insK, List.getD_eq_getElem?_getD, List.getElem?_append, List.length_take, h2, List.getElem?_drop, List.length_singleton]
  rw [if_neg (by omega), if_neg (by omega), show a + (i + 1 - a - 1) = i by omega]
/-- Each place of the longer list: before, the new one, or behind. -/
theorem ins_cases (a i : Nat) : i < a ∨ i = a ∨ ∃ j, i = j + 1 ∧ a ≤ j := by
  rcases Nat.lt_trichotomy i a with h | h | h
  · exact .inl h
  · exact .inr (.inl h)
  · exact .inr (.inr ⟨i - 1, by omega, by omega⟩)
structure InAt (l : List T3) (a : Nat) (t x : Int) : Prop where
  ok : Ok l
  short : l.length < 8
  al : a ≤ l.length
  lo : ∀ k, k < a → tm l k < t
  hi : ∀ k, a ≤ k → k < l.length → t < tm l k
  t0 : 0 ≤ t
  t1 : t ≤ 1000
  x0 : -1000 ≤ x
  x1 : x ≤ 1000
theorem ins_old {l : List T3} {a : Nat} {e : T3} (ha : a ≤ l.length) {i : Nat} (hi : i < (insK l a e).length) : (insK l a e).getD i t0 = e ∧ i = a ∨ ∃ j, j < l.length ∧ (insK l a e).getD i t0 = l.getD j t0 ∧ ((i < a ∧ j = i) ∨ (i = j + 1 ∧ a ≤ j)) := by
  rw [insK_length ha] at hi
  rcases ins_cases a i with h | h | ⟨j, rfl, h⟩
  · exact .inr ⟨i, by omega, ins_lt ha h, .inl ⟨h, rfl⟩⟩
  · subst h; exact .inl ⟨ins_eq ha, rfl⟩
  · exact .inr ⟨j, by omega, ins_gt ha h, .inr ⟨rfl, h⟩⟩
theorem ins_ok {l : List T3} {a : Nat} {t x : Int} (h : InAt l a t x) : Ok (insK l a (t, x, x)) := by
  have hl := h.ok
  have hlen := insK_length (e := ((t, x, x) : T3)) h.al
  have hsh := h.short
  refine ⟨by omega, by omega, ?_, ?_, ?_, ?_, ?_, ?_⟩
  · intro i hi; unfold tm; rcases ins_old h.al hi with ⟨e, -⟩ | ⟨j, hj, e, -⟩ <;> rw [e]
    · exact h.t0
    · exact hl.t0 j hj
  · intro i hi; unfold tm; rcases ins_old h.al hi with ⟨e, -⟩ | ⟨j, hj, e, -⟩ <;> rw [e]
    · exact h.t1
    · exact hl.t1 j hj
  · intro i hi; unfold lw; rcases ins_old h.al hi with ⟨e, -⟩ | ⟨j, hj, e, -⟩ <;> rw [e]
    · exact h.x0
    · exact hl.lo j hj
  · intro i hi; unfold hg; rcases ins_old h.al hi with ⟨e, -⟩ | ⟨j, hj, e, -⟩ <;> rw [e]
    · exact h.x1
    · exact hl.hi j hj
  · intro i hi; unfold lw hg; rcases ins_old h.al hi with ⟨e, -⟩ | ⟨j, hj, e, -⟩ <;> rw [e]
    · exact Int.le_refl _
    · exact hl.lh j hj
  · intro i k hik hk
    unfold tm
    rcases ins_old (e := ((t, x, x) : T3)) h.al (i := i) (by omega) with ⟨e1, p1⟩ | ⟨j1, hj1, e1, p1⟩ <;> rcases ins_old h.al hk with ⟨e2, p2⟩ | ⟨j2, hj2, e2, p2⟩ <;> rw [e1, e2]
    · omega
    · exact h.hi j2 (by omega) hj2
    · exact h.lo j1 (by omega)
    · exact hl.inc j1 j2 (by omega) hj2
theorem ins_agree {l : List T3} {a : Nat} {t x r : Int} (h : InAt l a t x) (hr : 0 ≤ r) (ha : agreeB l r = true) : agreeB (insK l a (t, x, x)) r = true ↔ lowB l r t ≤ x ∧ x ≤ highB l r t := by
  have hl := h.ok
  have hlen := insK_length (e := ((t, x, x) : T3)) h.al
  have hE := ins_eq (e := ((t, x, x) : T3)) h.al
  have hal := h.al
  have place : ∀ k, k < l.length → ∃ i, i < l.length + 1 ∧ (insK l a (t, x, x)).getD i t0 = l.getD k t0 := fun k hk => by
    by_cases hka : k < a
    · exact ⟨k, by omega, ins_lt h.al hka⟩
    · exact ⟨k + 1, by omega, ins_gt h.al (by omega)⟩
  rw [agree_iff (ins_ok h) hr]
  constructor
  · intro hA
    refine ⟨(lowB_le hl.ne).2 fun k hk => ?_, (highB_ge hl.ne).2 fun k hk => ?_⟩
    · obtain ⟨i, hi, e⟩ := place k hk
      have := hA i a (by omega) (by omega)
      unfold lw hg tm at this
      rw [e, hE] at this
      simp only [] at this
      unfold lw tm
      omega
    · obtain ⟨i, hi, e⟩ := place k hk
      have := hA a i (by omega) (by omega)
      unfold lw hg tm at this
      rw [e, hE] at this
      simp only [] at this
      rw [farI_comm] at this
      unfold hg tm
      omega
  · rintro ⟨hlo, hhi⟩ i k hi hk
    unfold lw hg tm
    rcases ins_old h.al hi with ⟨e1, -⟩ | ⟨j1, hj1, e1, -⟩ <;> rcases ins_old h.al hk with ⟨e2, -⟩ | ⟨j2, hj2, e2, -⟩ <;> rw [e1, e2]
    · have : farI t t = 0 := by unfold farI; omega
      simp [this]
    · have := highB_le (r := r) (t := t) hj2
      unfold hg tm at this
      rw [farI_comm] at this
      simp only []
      omega
    · have := lowB_ge (r := r) (t := t) hj1
      unfold lw tm at this
      simp only []
      omega
    · exact (agree_iff hl hr).1 ha j1 j2 hj1 hj2
/-- With another value: not. -/
theorem ins_set (l : List T3) (a : Nat) (e e' : T3) (ha : a ≤ l.length) : (insK l a e).set a e' = insK l a e' := by
  unfold insK
  rw [List.set_append_right _ _ (by simp; omega)]
  simp [show min a l.length = a by omega]
end Go.Proofs.Ytbbhaongakmhpaa
