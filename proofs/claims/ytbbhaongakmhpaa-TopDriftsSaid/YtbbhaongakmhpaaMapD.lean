/- Bounds by their times, as a map: what a map reads as, key by key. -/
import Derived.Test.YtbbhaongakmhpaaDrfX
import Derived.Test.YtbbhaongakmhpaaBnd
import Derived.Maps.Ext
import Derived.Maps.RangeWalk
import Derived.Maps.OwnSet
import Derived.Lib.SlMapEqual
namespace Go.Proofs.Ytbbhaongakmhpaa
open Go.RowKit Go.Maps

/-- How a pair reads. -/
def arrL : List Value → Option (DataW Unit × List MemPlace)
  | [.int .i64 a, .int .i64 b] => some (.agg [.lit (.int .i64 a), .lit (.int .i64 b)], [])
  | _ => none
def arrE : Value → Option (DataW Unit × List MemPlace)
  | .agg cs => arrL cs.toList
  | _ => none
def encD (q : Int × Int) : DataW Unit := .agg [.lit (.int .i64 q.1), .lit (.int .i64 q.2)]
theorem arrE_mk (a b : Int) : arrE (.agg #[.int .i64 a, .int .i64 b]) = some (encD (a, b), []) := rfl
theorem arrL_inv {cs : List Value} {z : DataW Unit × List MemPlace} (h : arrL cs = some z) : ∃ a b : Int, cs = [.int .i64 a, .int .i64 b] ∧ z = (encD (a, b), []) := by
  unfold arrL at h
  split at h
  · rename_i a b
    injection h with h
    exact ⟨a, b, rfl, h.symm⟩
  · cases h
theorem arrE_inv {v : Value} {z : DataW Unit × List MemPlace} (h : arrE v = some z) : ∃ a b : Int, v = .agg #[.int .i64 a, .int .i64 b] ∧ z = (encD (a, b), []) := by
  cases v with
  | agg cs =>
    obtain ⟨a, b, hc, hz⟩ := arrL_inv h
    refine ⟨a, b, ?_, hz⟩
    rw [← Array.toArray_toList (xs := cs), hc]
  | _ => cases h
theorem encD_inj {p q : Int × Int} (h : encD p = encD q) : p = q := by
  simp only [encD, DataW.agg.injEq, List.cons.injEq, DataW.lit.injEq, Lit.int.injEq, and_true, true_and] at h
  exact Prod.ext h.1 h.2
def key (t : Int) : Lit := .int .i64 t
theorem key_ok (t : Int) : WideAt.IsKeyLit (key t) := by unfold key; exact trivial
theorem key_ne {s t : Int} (h : s ≠ t) : key s ≠ key t := fun e => h (by unfold key at e; injection e)
theorem key_eq {s t : Int} (h : key s = key t) : s = t := by unfold key at h; injection h
/-- The map holds just f at the keys of ks. -/
def Holds (D : DataW Unit) (ks : List Int) (f : Int → Int × Int) : Prop := ∃ es, D = .map es ∧ es.Perm (ks.map fun t => (key t, encD (f t))) ∧ ks.Nodup
theorem holds_nil (f : Int → Int × Int) : Holds (.map []) [] f := ⟨[], rfl, List.Perm.refl _, List.nodup_nil⟩
theorem holds_apart {es : List (Lit × DataW Unit)} {ks : List Int} {f : Int → Int × Int} (h : es.Perm (ks.map fun t => (key t, encD (f t)))) (hn : ks.Nodup) : es.Pairwise (fun p q => p.1 ≠ q.1) := by
  have h2 : (ks.map fun t => (key t, encD (f t))).Pairwise (fun p q => p.1 ≠ q.1) := by
    rw [List.pairwise_map]
    exact hn.imp fun hne => key_ne hne
  exact (h.symm.pairwise h2) (fun hxy => Ne.symm hxy)
theorem holds_put {D : DataW Unit} {ks : List Int} {f : Int → Int × Int} {t : Int} (h : Holds D ks f) (ht : t ∉ ks) : Holds (D.put (key t) (encD (f t))) (ks ++ [t]) f := by
  obtain ⟨es, rfl, hp, hn⟩ := h
  refine ⟨_, rfl, ?_, ?_⟩
  · have hf : es.filter (fun p => !p.1.sameKey (key t)) = es := by
      rw [List.filter_eq_self]
      intro p hp'
      obtain ⟨s, hs, rfl⟩ := List.mem_map.1 (hp.mem_iff.1 hp')
      rcases hb : (key s).sameKey (key t) with _ | _
      · rfl
      · exact absurd (key_eq (WideAt.sameKey_eq hb)) (fun e => ht (e ▸ hs))
    rw [hf, List.map_append]
    refine (WideShapes.insert_perm _ _).trans ?_
    refine (List.Perm.cons _ hp).trans ?_
    exact (List.perm_append_singleton _ _).symm
  · rw [List.nodup_append]
    exact ⟨hn, by simp, fun a ha b hb => by simp at hb; subst hb; rintro rfl; exact ht ha⟩
theorem holds_del {D : DataW Unit} {ks : List Int} {f : Int → Int × Int} {t : Int} (h : Holds D ks f) : Holds (D.del (key t)) (ks.filter fun s => decide (s ≠ t)) f := by
  obtain ⟨es, rfl, hp, hn⟩ := h
  refine ⟨_, rfl, ?_, hn.filter _⟩
  refine (hp.filter _).trans ?_
  rw [List.filter_map]
  have : ((fun p : Lit × DataW Unit => !p.1.sameKey (key t)) ∘ fun s => (key s, encD (f s))) = fun s => decide (s ≠ t) := by
    funext s
    show (!(key s).sameKey (key t)) = decide (s ≠ t)
    by_cases hs : s = t
    · subst hs; rw [WideAt.sameKey_self (key_ok s)]; simp
    · rcases hb : (key s).sameKey (key t) with _ | _
      · simp [hs]
      · exact absurd (key_eq (WideAt.sameKey_eq hb)) hs
  rw [this]
theorem holds_at {D : DataW Unit} {ks : List Int} {f : Int → Int × Int} {t : Int} (h : Holds D ks f) (ht : t ∈ ks) (z : DataW Unit) : D.atKey (key t) z = encD (f t) ∧ has D (key t) = true := by
  obtain ⟨es, rfl, hp, hn⟩ := h
  have hm : (key t, encD (f t)) ∈ es := hp.mem_iff.2 (List.mem_map.2 ⟨t, ht, rfl⟩)
  refine ⟨WideAt.atKey_mem z (key_ok t) (holds_apart hp hn) hm, ?_⟩
  exact List.any_eq_true.2 ⟨_, hm, WideAt.sameKey_self (key_ok t)⟩
theorem holds_not {D : DataW Unit} {ks : List Int} {f : Int → Int × Int} {t : Int} (h : Holds D ks f) (ht : t ∉ ks) : has D (key t) = false := by
  obtain ⟨es, rfl, hp, hn⟩ := h
  rw [has_eq, List.any_eq_false]
  intro p hp'
  obtain ⟨s, hs, rfl⟩ := List.mem_map.1 (hp.mem_iff.1 hp')
  intro hb
  exact ht (key_eq (WideAt.sameKey_eq hb) ▸ hs)
theorem holds_size {D : DataW Unit} {ks : List Int} {f : Int → Int × Int} (h : Holds D ks f) : Maps.size D = ks.length := by
  obtain ⟨es, rfl, hp, hn⟩ := h
  show es.length = _
  rw [hp.length_eq, List.length_map]
/-- Elements that read alike. -/
def eqE (x y : DataW Unit) : Bool := match x, y with
  | .agg [.lit (.int .i64 a), .lit (.int .i64 b)], .agg [.lit (.int .i64 c), .lit (.int .i64 d)] => decide (a = c ∧ b = d)
  | _, _ => false
theorem eqE_enc (p q : Int × Int) : eqE (encD p) (encD q) = decide (p = q) := by
  obtain ⟨a, b⟩ := p
  obtain ⟨c, d⟩ := q
  show decide (a = c ∧ b = d) = _
  simp [Prod.ext_iff]
/-- Two maps are equal where they hold the same at the same keys. -/
theorem equal_holds {D1 D2 : DataW Unit} {k1 k2 : List Int} {f1 f2 : Int → Int × Int} (h1 : Holds D1 k1 f1) (h2 : Holds D2 k2 f2) (hl : k1.length = k2.length) :
    Lib.equalFuncD eqE D1 D2 = true ↔ ∀ t ∈ k1, t ∈ k2 ∧ f1 t = f2 t := by
  have hs : Maps.size D1 = Maps.size D2 := by rw [holds_size h1, holds_size h2, hl]
  have hD2 := h2
  obtain ⟨es, rfl, hp, hn⟩ := h1
  unfold Lib.equalFuncD
  rw [decide_eq_true hs, Bool.true_and, List.all_eq_true]
  constructor
  · intro h t ht
    have hm : (key t, encD (f1 t)) ∈ es := hp.mem_iff.2 (List.mem_map.2 ⟨t, ht, rfl⟩)
    have hg := h _ hm
    unfold Lib.goodD at hg
    rw [Bool.and_eq_true] at hg
    by_cases ht2 : t ∈ k2
    · refine ⟨ht2, ?_⟩
      have h3 := hg.2
      rw [(holds_at hD2 ht2 _).1, eqE_enc, decide_eq_true_eq] at h3
      exact h3
    · rw [holds_not hD2 ht2] at hg; cases hg.1
  · intro h p hp'
    obtain ⟨t, ht, rfl⟩ := List.mem_map.1 (hp.mem_iff.1 hp')
    obtain ⟨ht2, he⟩ := h t ht
    unfold Lib.goodD
    show (has D2 (key t) && eqE (encD (f1 t)) (D2.atKey (key t) .nil)) = true
    rw [(holds_at hD2 ht2 .nil).2, (holds_at hD2 ht2 .nil).1, eqE_enc, he]
    simp

/- The readings' times as keys. -/
def timesL (l : List T3) : List Int := l.map fun a => a.1
theorem times_nodup {l : List T3} (hl : Ok l) : (timesL l).Nodup := by
  unfold timesL
  rw [List.Nodup, List.pairwise_map, List.pairwise_iff_getElem]
  intro i j hi hj hij
  have := hl.inc i j hij hj
  unfold tm at this
  simp [hi, hj] at this
  intro e
  rw [e] at this
  omega
theorem times_mem {l : List T3} {t : Int} : t ∈ timesL l ↔ ∃ k, k < l.length ∧ tm l k = t := by
  unfold timesL
  constructor
  · intro h
    obtain ⟨a, ha, rfl⟩ := List.mem_map.1 h
    obtain ⟨k, hk, rfl⟩ := List.getElem_of_mem ha
    exact ⟨k, hk, by simp [tm, hk]⟩
  · rintro ⟨k, hk, rfl⟩
    exact List.mem_map.2 ⟨l[k], List.getElem_mem hk, by simp [tm, hk]⟩
def bndF (l : List T3) (r t : Int) : Int × Int := (lowB l r t, highB l r t)
theorem tm_inj {l : List T3} (hl : Ok l) {i j : Nat} (hi : i < l.length) (hj : j < l.length) (h : tm l i = tm l j) : i = j := by
  rcases Nat.lt_trichotomy i j with h1 | h1 | h1
  · have := hl.inc i j h1 hj; omega
  · exact h1
  · have := hl.inc j i h1 hi; omega
theorem filter_len {ks : List Int} (hn : ks.Nodup) {t : Int} (ht : t ∈ ks) : (ks.filter fun s => decide (s ≠ t)).length = ks.length - 1 := by
  have h1 : (ks.filter fun s => decide (s ≠ t)) = ks.erase t := by
    rw [hn.erase_eq_filter]
    congr 1
    funext s
    by_cases h : s = t <;> simp [h, bne]
  rw [h1, List.length_erase_of_mem ht]
/-- What Needless asks of a reading. -/
theorem need_equal {l : List T3} {r : Int} {k : Nat} (hl : Ok l) (hk : k < l.length) {D1 D2 : DataW Unit} (h : Holds D1 ((timesL l).filter fun s => decide (s ≠ tm l k)) (bndF l r)) (h' : Holds D2 (timesL (dropK l k)) (bndF (dropK l k) r)) :
    Lib.equalFuncD eqE D1 D2 = needlessB l r k := by
  have hlen : ((timesL l).filter fun s => decide (s ≠ tm l k)).length = (timesL (dropK l k)).length := by
    rw [filter_len (times_nodup hl) (times_mem.2 ⟨k, hk, rfl⟩)]
    unfold timesL
    rw [List.length_map, List.length_map, dropK_length hk]
  have key : Lib.equalFuncD eqE D1 D2 = true ↔ needlessB l r k = true := by
    rw [equal_holds h h' hlen, needless_iff hk]
    constructor
    · intro hA j hj hne
      have hm : tm l j ∈ (timesL l).filter fun s => decide (s ≠ tm l k) := by
        rw [List.mem_filter]
        exact ⟨times_mem.2 ⟨j, hj, rfl⟩, by simp only [decide_eq_true_eq]; exact fun e => hne (tm_inj hl hj hk e)⟩
      have := (hA _ hm).2
      unfold bndF at this
      injection this with a b
      exact ⟨a.symm, b.symm⟩
    · intro hA t ht
      rw [List.mem_filter] at ht
      obtain ⟨j, hj, rfl⟩ := times_mem.1 ht.1
      have hne : j ≠ k := fun e => by subst e; simp at ht
      obtain ⟨i, hi, hlt⟩ := skip_all hne
      have hi2 := hlt l.length hj hk
      refine ⟨times_mem.2 ⟨i, by rw [dropK_length hk]; exact hi2, ?_⟩, ?_⟩
      · unfold tm; rw [drop_get hk hi2, hi]
      · obtain ⟨a, b⟩ := hA j hj hne
        unfold bndF
        rw [a, b]
  rcases ha : Lib.equalFuncD eqE D1 D2 with _ | _
  · rcases hb : needlessB l r k with _ | _
    · rfl
    · rw [key.2 hb] at ha; cases ha
  · exact (key.1 ha).symm
end Go.Proofs.Ytbbhaongakmhpaa
