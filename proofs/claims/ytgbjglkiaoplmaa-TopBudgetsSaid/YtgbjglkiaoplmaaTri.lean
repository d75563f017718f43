/- Lists of numbers in memory; append at elements of any size; a region that draws, reads and calls, walked once. -/
import Derived.Test.YtgbjglkiaoplmaaProg
import Derived.Test.YtgbjglkiaoplmaaBudO
import Derived.Test.YtgbjglkiaoplmaaOwn
import Derived.WalkLawsBesides
import Derived.WalkSmall
import Derived.BigQuiet
import Derived.BigRegion
import Derived.Deep.QuietTactic
import Derived.Deep.RegionWith
import Derived.Deep.RegionLaw
import Derived.Deep.LoopGhost
import Derived.Deep.AppendSrc
import Derived.Lib.Hide
import Derived.Lib.SliceRun
import Derived.StillTailTactics
import Derived.Laws.OwnMore
namespace Go.Proofs.Ytgbjglkiaoplmaa
open Go.RowKit

theorem laid_out : laidOutB Try.prog = true := by kernel_rfl
theorem int_info : (Try.prog.info? 3).map (fun i => (i.zero, i.size, i.bytes)) = some (some (.int .i64 0), 1, 8) := by kernel_rfl
theorem info_parts {P : Program} {t : TypeId} {z : Value} {s b : Nat} (h : (P.info? t).map (fun i => (i.zero, i.size, i.bytes)) = some (some z, s, b)) : ∃ i, P.info? t = some i ∧ i.zero = some z ∧ i.size = s ∧ i.bytes = b := by
  cases hp : P.info? t with
  | none => rw [hp] at h; cases h
  | some i =>
    rw [hp] at h
    simp at h
    exact ⟨i, rfl, h.1, h.2.1, h.2.2⟩

theorem wp_region_low {P : Program} {C : World → Prop} {id : Nat} {Q : Exit → Act → World → Prop} {a : Act} {w : World} {l : List Oper} (hC : C w.drew) (hm : P.follows .mixedOrders = true) (hB : Region.lexB .any l.toArray = true)
    (h : wpQuiet P l.toArray C (fun a' => ∀ w', C w' → Q .normal a' w') l a) : (Code.region id l.toArray true).wp P Q a w :=
  wp_region_quiet (C := C) hm hB hC (by simpa using h)
theorem quietAt_calls {P : Program} {o : Oper} {a : Act} {C : World → Prop} {W : World} {v : Value} {f : FuncId} {args : Array Value}
    (hx : (execOp a.eval o).run P W = .ok (.enter f args) W) (h : Calls P f args W (fun e w'' => e = .returned v ∧ C w'')) : o.quietAt P a C W v := by
  unfold Oper.quietAt; rw [hx]; exact ⟨rfl, h⟩

theorem Bx.three {w : World} {g : Nat} {T : TypeId} {u v x : Value} (h : Bx w g T #[u, v, x]) :
    w.cell? ⟨g, 0, none⟩ = some u ∧ w.cell? ⟨g, 1, none⟩ = some v ∧ w.cell? ⟨g, 2, none⟩ = some x ∧ w.frozen? ⟨g, 0, none⟩ = false ∧ w.frozen? ⟨g, 1, none⟩ = false ∧ w.frozen? ⟨g, 2, none⟩ = false :=
  ⟨h.cell 0, h.cell 1, h.cell 2, h.free 0, h.free 1, h.free 2⟩
theorem Bx.rd {w : World} {g : Nat} {T : TypeId} {cs : List Value} (h : Bx w g T cs.toArray) : Rd w (some ⟨g, 0, none⟩) cs := by
  refine .inr ⟨g, 0, rfl, Bx.lt h, fun k v hv => ?_⟩
  rw [Nat.zero_add, Bx.cell h k]; simpa using hv

theorem ints_one (l : List Int) : ∀ u ∈ ints l, u.oneCell' = true := fun u hu => by
  obtain ⟨x, _, rfl⟩ := List.mem_map.1 hu
  rfl
theorem ints_snoc (xs : List Int) (x : Int) : ints (xs ++ [x]) = ints xs ++ [.int .i64 x] := by simp [ints]
/-- Part of what is read. -/
theorem Rd.head {w : World} {A : Option Addr} {X Y : List Value} (h : Rd w A (X ++ Y)) : Rd w A X := by
  by_cases hX : X = []
  · exact .inl hX
  · rcases h with h | ⟨b, o, rfl, hb, hc⟩
    · exact absurd (List.append_eq_nil_iff.1 h).1 hX
    · refine .inr ⟨b, o, rfl, hb, fun k v hv => hc k v ?_⟩
      rw [List.getElem?_append_left (List.getElem?_eq_some_iff.1 hv).1]; exact hv
theorem own_base {w : World} {base base' size n : Nat} {e : TypeId} {v : Value} {xs : List Value} (h : w.ownsRow base e size v n xs) (hb : base' ≤ base) : w.ownsRow base' e size v n xs := by
  refine ⟨h.1, ?_⟩
  rcases h.2 with hv | ⟨g, cap, cur, hv, hg, rest⟩
  · exact .inl hv
  · exact .inr ⟨g, cap, cur, hv, Nat.le_trans hb hg, rest⟩
theorem rd_newI (w : World) (T : TypeId) (l : List Int) : Rd (w.alloc (.cells (ints l).toArray T)) (some ⟨w.heap.size, 0, none⟩) (ints l) := Bx.rd (Bx.new w _ _)
theorem rd_none {α : Type} {f : α → List Value} {w : World} {l : List α} (hf : ∀ a, f a ≠ []) (h : Rd w none (l.flatMap f)) : l = [] := by
  rcases h with h | ⟨_, _, h, _⟩
  · cases l with
    | nil => rfl
    | cons a t => simp [hf a] at h
  · cases h

theorem run_append_nils {P : Program} {w : World} (t ty e : TypeId) (i : TypeInfo) (ht : P.underlying t = some (.slice e)) (hi : P.info? e = some i) (c : Nat) :
    (Builtin.append_ #[t, t] ty #[.slice none 0 0, .slice none 0 c]).run P w = .ok (.slice none 0 0) w := by
  have h1 := run_firstCells_none (P := P) w i.size 0 0 c
  simp [Builtin.append_, run_underlying ht, sizeOf, typeInfo, hi, Builtin.lenOf, h1]
theorem run_append_rows {P : Program} (w : World) (base : Nat) (t e : TypeId) (i : TypeInfo) (z : Value) (size bytes : Nat) (ht : P.underlying t = some (.slice e)) (hi : P.info? e = some i) (hz : i.zero = some z)
    (hsize : i.size = size) (hby : i.bytes = bytes) (hzs : z.cells.size = size) (hs1 : 0 < size) (v : Value) (n : Nat) (xs : List Value) (hown : w.ownsRow base e size v n xs)
    (B : Option Addr) (m c : Nat) (ys : List Value) (hm : ys.length = m * size) (hone : ∀ u ∈ ys, u.oneCell' = true) (hr : Rd w B ys) (h63 : n + m ≤ maxLen) (hbytes : (n + m) * bytes ≤ 140737488355328) (hbase : base ≤ w.heap.size) :
    ∃ A' c' w', (∀ ty, (Builtin.append_ #[t, t] ty #[v, .slice B m c]).run P w = .ok (.slice A' (n + m) c') w') ∧ w'.ownsRow base e size (.slice A' (n + m) c') (n + m) (xs ++ ys) ∧ w.grownBy w' v.ownBlock := by
  have go : ∀ (ad : Addr), B = some ad → (∀ j u, ys[j]? = some u → w.cell? (ad.add j) = some u) → ∃ A' c' w', (∀ ty, (Builtin.append_ #[t, t] ty #[v, .slice B m c]).run P w = .ok (.slice A' (n + m) c') w') ∧ w'.ownsRow base e size (.slice A' (n + m) c') (n + m) (xs ++ ys) ∧ w.grownBy w' v.ownBlock := fun ad hB hn => by
    subst hB
    obtain ⟨v', w', h1, h2, h3, _⟩ := run_append_own_at (P := P) w base t 0 e i z size bytes ht hi hz hsize hby hzs hs1 v n xs hown ad m c ys hm hn hone h63 hbytes hbase
    obtain ⟨A', c', rfl⟩ := own_form h2
    exact ⟨A', c', w', fun ty => h1, h2, h3⟩
  by_cases h0 : 0 < ys.length
  · obtain ⟨b, off, hB, _, hc⟩ := hr.at_ (k := 0) h0
    exact go _ hB (fun j u hj => by
      have hadd : (⟨b, off, none⟩ : Addr).add j = ⟨b, off + j, none⟩ := by unfold Addr.add; split <;> simp_all
      rw [hadd]; exact hc j u hj)
  · have hq : ys = [] := List.length_eq_zero_iff.1 (by omega)
    subst hq
    cases B with
    | some ad => exact go ad rfl (fun j u hj => by simp at hj)
    | none =>
      obtain rfl : m = 0 := by
        rcases Nat.eq_zero_or_pos m with h | h
        · exact h
        · have := Nat.mul_pos h hs1
          rw [← hm] at this; simp at this
      rcases hown.2 with ⟨hv, hxs⟩ | ⟨g, cap, cur, hv, hb, hheap, hle, hmx, hsz, hpre⟩
      · subst hv
        subst hxs
        exact ⟨none, 0, w, fun ty => run_append_nils (P := P) (w := w) t ty e i ht hi c, by simpa using hown, World.grownBy.refl w _⟩
      · subst hv
        have hrun := fun ty => run_append_room_src (P := P) (w := w) t t ty e i ht hi g 0 n cap (.slice none 0 c) 0 [] (Src.ofNil w ht c) (by omega) (by intro j hj; cases hj) (by intro j hj; cases hj)
        have hw : w.setCells g (0 + n * i.size) [] = w := rfl
        rw [hw] at hrun
        exact ⟨_, _, w, hrun, by simpa using hown, World.grownBy.refl w _⟩
theorem wpList_append_eq {P : Program} {w : World} {ops : Array Oper} {rest : List Oper} {o : Oper} {a : Act} {Q : Exit → Act → World → Prop} (hgd : o.guard = none) (s x : Operand) (t : TypeId)
    (ho : o.op = .call { callee := .builtin .append, args := #[s, x], argTypes := #[t, t] }) (v1 v2 v' : Value) (W2 : World) (hs : a.eval s = v1) (hx : a.eval x = v2)
    (hrun : ∀ ty, (Builtin.append_ #[t, t] ty #[v1, v2]).run P w = .ok v' W2) (h : wpList P ops Q rest (a.put o.dst v') W2) : wpList P ops Q (o :: rest) a w := by
  refine wpList_plain hgd fun K hK => ?_
  unfold Oper.wp execOp
  simp only [ho, resolve, invoke, builtin, Sem.run_bind, Sem.run_pure, Result.andThen_ok, List.map_toArray, List.map_cons, List.map_nil, hs, hx, hrun]
  exact hK _ _ h
/-- A block of another type is not the row that grows. -/
theorem bx_grown {w w' : World} {base size n : Nat} {e T : TypeId} {v : Value} {xs : List Value} {g : Nat} {cs : Array Value} (h : w.ownsRow base e size v n xs) (hg : w.grownBy w' v.ownBlock) (hne : T ≠ e) (hx : Bx w g T cs) : Bx w' g T cs := by
  refine (hg.block g hx.lt fun he => ?_).trans hx
  rcases h.2 with ⟨rfl, _⟩ | ⟨g', cap, cur, rfl, _, hh, _⟩
  · cases he
  · injection he with he
    subst he
    have h1 : w.heap[g]? = some (.cells cs T (0, 0)) := hx
    rw [hh] at h1
    injection h1 with h1
    injection h1 with _ h1
    exact hne h1.symm
/-- .. by one number. -/
theorem append_int (base : Nat) (w : World) (v : Value) (l : List Int) (x : Int) (hown : w.ownsRow base 3 1 v l.length (ints l)) (hlen : l.length ≤ 100000) (hb : base ≤ w.heap.size) :
    ∃ A' c' w', (∀ ty, (Builtin.append_ #[40, 40] ty #[v, .slice (some ⟨w.heap.size, 0, none⟩) 1 1]).run Try.prog (w.alloc (.cells #[.int .i64 x] 3)) = .ok (.slice A' (l.length + 1) c') w') ∧ w'.ownsRow base 3 1 (.slice A' (l.length + 1) c') (l ++ [x]).length (ints (l ++ [x])) ∧ Below base w w' ∧ (∀ g T' cs, T' ≠ 3 → Bx w g T' cs → Bx w' g T' cs) := by
  obtain ⟨i0, hi, hz0, hz1, hz2⟩ := info_parts int_info
  have hrd : Rd (w.alloc (.cells #[.int .i64 x] 3)) (some ⟨w.heap.size, 0, none⟩) (ints [x]) := rd_newI w 3 [x]
  have hs : base ≤ (w.alloc (.cells #[.int .i64 x] 3)).heap.size := by rw [World.size_alloc]; omega
  obtain ⟨A', c', w2, h1, h2, h3⟩ := run_append_rows (P := Try.prog) _ base 40 3 i0 _ 1 8 Try.underlying40 hi hz0 hz1 hz2 rfl (by decide) v l.length (ints l) (hown.alloc _) (some ⟨w.heap.size, 0, none⟩) 1 1 (ints [x]) rfl (ints_one _) hrd (by unfold maxLen; omega) (by omega) hs
  refine ⟨A', c', w2, h1, ?_, ?_, fun g T' cs hne hx => bx_grown (hown.alloc _) h3 hne (hx.alloc _)⟩
  · rw [ints_snoc, List.length_append]; exact h2
  · exact ((Below.refl base w).alloc hb _).trans (grown_below (hown.alloc _) h3 hs)
end Go.Proofs.Ytgbjglkiaoplmaa
