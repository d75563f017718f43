/- append(row, q...), where q is a slice that reads as a list of numbers, also an empty or a nil one. append(row, q...), where the row may be nil too. -/
import Derived.Test.YtjgpfnnokdcgoaaOwn
import Derived.Deep.AppendSrc
namespace Go.Proofs.Ytjgpfnnokdcgoaa
open Go.RowKit

theorem wpList_append_rd {P : Program} {w : World} {ops : Array Oper} {rest : List Oper} {o : Oper} {a : Act} {Q : Exit → Act → World → Prop} (hgd : o.guard = none) (s x : Operand) (t : TypeId)
    (ho : o.op = .call { callee := .builtin .append, args := #[s, x], argTypes := #[t, t] })
    (base : Nat) (e : TypeId) (i : TypeInfo) (z : Value) (bytes : Nat) (ht : P.underlying t = some (.slice e)) (hi : P.info? e = some i) (hz : i.zero = some z)
    (hsize : i.size = 1) (hby : i.bytes = bytes) (hzs : z.cells.size = 1)
    (g cp n : Nat) (xs : List Value) (hs : a.eval s = .slice (some ⟨g, 0, none⟩) n cp) (hown : w.ownsRow base e 1 (.slice (some ⟨g, 0, none⟩) n cp) n xs)
    (B : Option Addr) (q : List Int) (c : Nat) (hx : a.eval x = .slice B q.length c) (hr : Rd w B (ints q)) (hcp : n ≤ cp)
    (h63 : n + q.length ≤ maxLen) (hbytes : (n + q.length) * bytes ≤ 140737488355328) (hbase : base ≤ w.heap.size)
    (h : ∀ A' c' w', w'.ownsRow base e 1 (.slice A' (n + q.length) c') (n + q.length) (xs ++ ints q) → w.grownBy w' (some g) → wpList P ops Q rest (a.put o.dst (.slice A' (n + q.length) c')) w') : wpList P ops Q (o :: rest) a w := by
  have go : ∀ (ad : Addr), B = some ad → (∀ j u, (ints q)[j]? = some u → w.cell? (ad.add j) = some u) → wpList P ops Q (o :: rest) a w := fun ad hB hn => by
    subst hB
    refine wpList_append_own w hgd s x t ho base e i z 1 bytes ht hi hz hsize hby hzs (by decide) _ n xs hs hown ad q.length c (ints q) hx (by simp [ints]) hn (fun u hu => ?_) h63 hbytes hbase fun v' w' h2 h3 _ => ?_
    · obtain ⟨_, _, rfl⟩ := List.mem_map.1 hu; rfl
    · obtain ⟨A', c', rfl⟩ := own_form h2
      exact h A' c' w' h2 h3
  by_cases h0 : 0 < q.length
  · obtain ⟨b, off, hB, _, hc⟩ := hr.at_ (k := 0) (by simpa [ints] using h0)
    exact go _ hB (fun j u hj => by
      have hadd : (⟨b, off, none⟩ : Addr).add j = ⟨b, off + j, none⟩ := by unfold Addr.add; split <;> simp_all
      rw [hadd]; exact hc j u hj)
  · have hq : q = [] := List.length_eq_zero_iff.1 (by omega)
    subst hq
    cases B with
    | some ad => exact go ad rfl (fun j u hj => by simp [ints] at hj)
    | none =>
      refine wpList_plain hgd fun K hK => ?_
      have hrun := run_append_room_src (P := P) (w := w) t t o.type e i ht hi g 0 n cp (.slice none 0 c) 0 [] (Src.ofNil w ht c) (by omega) (by intro j hj; cases hj) (by intro j hj; cases hj)
      have hw : w.setCells g (0 + n * i.size) [] = w := rfl
      rw [hw] at hrun
      unfold Oper.wp execOp
      have hx' : a.eval x = .slice none 0 c := hx
      simp only [ho, resolve, invoke, builtin, Sem.run_bind, Sem.run_pure, Result.andThen_ok, List.map_toArray, List.map_cons, List.map_nil, hs, hx', hrun]
      exact hK _ _ (h _ _ w (by simpa [ints] using hown) (World.grownBy.refl w _))
end Go.Proofs.Ytjgpfnnokdcgoaa
namespace Go.Proofs.Ytjgpfnnokdcgoaa
open Go.RowKit

theorem run_append_nils {P : Program} {w : World} (t ty e : TypeId) (i : TypeInfo) (ht : P.underlying t = some (.slice e)) (hi : P.info? e = some i) (c : Nat) :
    (Builtin.append_ #[t, t] ty #[.slice none 0 0, .slice none 0 c]).run P w = .ok (.slice none 0 0) w := by
  have h1 := run_firstCells_none (P := P) w i.size 0 0 c
  simp [Builtin.append_, run_underlying ht, sizeOf, typeInfo, hi, Builtin.lenOf, h1]

theorem wpList_append_any {P : Program} {w : World} {ops : Array Oper} {rest : List Oper} {o : Oper} {a : Act} {Q : Exit → Act → World → Prop} (hgd : o.guard = none) (s x : Operand) (t : TypeId)
    (ho : o.op = .call { callee := .builtin .append, args := #[s, x], argTypes := #[t, t] })
    (base : Nat) (e : TypeId) (i : TypeInfo) (z : Value) (bytes : Nat) (ht : P.underlying t = some (.slice e)) (hi : P.info? e = some i) (hz : i.zero = some z)
    (hsize : i.size = 1) (hby : i.bytes = bytes) (hzs : z.cells.size = 1)
    (v : Value) (n : Nat) (xs : List Value) (hs : a.eval s = v) (hown : w.ownsRow base e 1 v n xs)
    (B : Option Addr) (q : List Int) (c : Nat) (hx : a.eval x = .slice B q.length c) (hr : Rd w B (ints q))
    (h63 : n + q.length ≤ maxLen) (hbytes : (n + q.length) * bytes ≤ 140737488355328) (hbase : base ≤ w.heap.size)
    (h : ∀ A' c' w', w'.ownsRow base e 1 (.slice A' (n + q.length) c') (n + q.length) (xs ++ ints q) → w.grownBy w' v.ownBlock → wpList P ops Q rest (a.put o.dst (.slice A' (n + q.length) c')) w') : wpList P ops Q (o :: rest) a w := by
  rcases hown.2 with ⟨hv, hxs⟩ | ⟨g, cap, cur, hv, hb, hheap, hle, hm, hsz, hpre⟩
  · subst hv
    subst hxs
    have hx0 : xs = [] := List.length_eq_zero_iff.1 (by have := hown.1; omega)
    subst hx0
    have go : ∀ (ad : Addr), B = some ad → (∀ j u, (ints q)[j]? = some u → w.cell? (ad.add j) = some u) → wpList P ops Q (o :: rest) a w := fun ad hB hn => by
      subst hB
      refine wpList_append_own w hgd s x t ho base e i z 1 bytes ht hi hz hsize hby hzs (by decide) _ 0 [] hs hown ad q.length c (ints q) hx (by simp [ints]) hn (fun u hu => ?_) h63 hbytes hbase fun v' w' h2 h3 _ => ?_
      · obtain ⟨_, _, rfl⟩ := List.mem_map.1 hu; rfl
      · obtain ⟨A', c', rfl⟩ := own_form h2
        exact h A' c' w' h2 h3
    by_cases h0 : 0 < q.length
    · obtain ⟨b, off, hB, _, hc⟩ := hr.at_ (k := 0) (by simpa [ints] using h0)
      exact go _ hB (fun j u hj => by
        have hadd : (⟨b, off, none⟩ : Addr).add j = ⟨b, off + j, none⟩ := by unfold Addr.add; split <;> simp_all
        rw [hadd]; exact hc j u hj)
    · have hq : q = [] := List.length_eq_zero_iff.1 (by omega)
      subst hq
      cases B with
      | some ad => exact go ad rfl (fun j u hj => by simp [ints] at hj)
      | none =>
        refine wpList_plain hgd fun K hK => ?_
        have hrun := run_append_nils (P := P) (w := w) t o.type e i ht hi c
        unfold Oper.wp execOp
        have hx' : a.eval x = .slice none 0 c := hx
        simp only [ho, resolve, invoke, builtin, Sem.run_bind, Sem.run_pure, Result.andThen_ok, List.map_toArray, List.map_cons, List.map_nil, hs, hx', hrun]
        exact hK _ _ (h none 0 w (by simpa [ints] using hown) (World.grownBy.refl w _))
  · subst hv
    exact wpList_append_rd hgd s x t ho base e i z bytes ht hi hz hsize hby hzs g cap n xs hs hown B q c hx hr hle h63 hbytes hbase fun A' c' w' h2 h3 => h A' c' w' h2 h3
end Go.Proofs.Ytjgpfnnokdcgoaa
