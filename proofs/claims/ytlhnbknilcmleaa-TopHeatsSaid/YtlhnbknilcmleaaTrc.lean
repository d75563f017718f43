/- Tables: rows of slices of numbers; slices.Clone at numbers; package heat's Trace. -/
import Derived.Test.YtlhnbknilcmleaaHotC
import Derived.Laws.OwnMore
namespace Go.Proofs.Ytlhnbknilcmleaa
open Go.RowKit

theorem slice_info : (Try.prog.info? 34).map (fun i => (i.zero, i.size, i.bytes)) = some (some (.slice none 0 0), 1, 24) := by kernel_rfl

section
variable {w w' : World} {base base' e e' size size' n n' : Nat} {v v' : Value} {xs xs' : List Value}
/-- Rows of different types lie in different blocks. -/
theorem own_ne (h : w.ownsRow base e size v n xs) (h' : w.ownsRow base' e' size' v' n' xs') (hne : e ≠ e') : ∀ k, v.ownBlock = some k → v'.ownBlock ≠ some k := by
  intro k hk hk'
  rcases h.2 with ⟨rfl, _⟩ | ⟨g, cap, cur, rfl, _, hg, _⟩
  · cases hk
  · rcases h'.2 with ⟨rfl, _⟩ | ⟨g', cap', cur', rfl, _, hg', _⟩
    · cases hk'
    · cases hk; cases hk'
      have hg1 : w.heap[g]? = some (.cells cur e (0, 0)) := hg
      have hg2 : w.heap[g]? = some (.cells cur' e' (0, 0)) := hg'
      rw [hg1] at hg2
      injection hg2 with h1
      injection h1 with _ h2
      exact hne h2
theorem own_one (hb : base ≤ w.heap.size) : (w.alloc (.cells #[v] e)).ownsRow base e 1 (.slice (some ⟨w.heap.size, 0, none⟩) 1 1) 1 [v] :=
  ⟨rfl, .inr ⟨w.heap.size, 1, #[v], rfl, hb, World.alloc_heap_new w _, Nat.le_refl _, by unfold maxLen; omega, rfl, rfl⟩⟩
end

/-- hs are slices that read as the lists ls, each of them a row of its own from base on. -/
def Tab (w : World) (base : Nat) (hs : List Value) (ls : List (List Int)) : Prop :=
  hs.length = ls.length ∧ ∀ k, k < ls.length → ∃ A c, hs[k]? = some (.slice A (ls.getD k []).length c) ∧ w.ownsRow base 3 1 (.slice A (ls.getD k []).length c) (ls.getD k []).length (ints (ls.getD k []))
section
variable {w w' : World} {base base' : Nat} {hs : List Value} {ls : List (List Int)}
theorem Tab.nil (w : World) (base : Nat) : Tab w base [] [] := ⟨rfl, fun k h => by simp at h⟩
theorem Tab.lower (h : Tab w base hs ls) (hb : base' ≤ base) : Tab w base' hs ls :=
  ⟨h.1, fun k hk => by obtain ⟨A, c, h1, h2⟩ := h.2 k hk; exact ⟨A, c, h1, own_base h2 hb⟩⟩
theorem Tab.call (h : Tab w base hs ls) (hb : Below w.heap.size w w') : Tab w' base hs ls :=
  ⟨h.1, fun k hk => by obtain ⟨A, c, h1, h2⟩ := h.2 k hk; exact ⟨A, c, h1, own_call h2 hb⟩⟩
/-- A row of another type may be written. -/
theorem Tab.grown (h : Tab w base hs ls) {e b n : Nat} {v : Value} {xs : List Value} (ho : w.ownsRow b e 1 v n xs) (hne : 3 ≠ e) (hg : w.grownBy w' v.ownBlock) : Tab w' base hs ls :=
  ⟨h.1, fun k hk => by
    obtain ⟨A, c, h1, h2⟩ := h.2 k hk
    refine ⟨A, c, h1, h2.kept hg ?_⟩
    cases hA : (Value.slice A (ls.getD k []).length c).ownBlock with
    | none => exact .inl rfl
    | some j => exact .inr (fun e => own_ne h2 ho hne j hA e.symm)⟩
theorem Tab.snoc (h : Tab w base hs ls) {A : Option Addr} {l : List Int} {c : Nat} (ho : w.ownsRow base 3 1 (.slice A l.length c) l.length (ints l)) : Tab w base (hs ++ [.slice A l.length c]) (ls ++ [l]) := by
  refine ⟨by simp [h.1], fun k hk => ?_⟩
  rcases Nat.lt_or_ge k ls.length with hlt | hge
  · obtain ⟨A', c', h1, h2⟩ := h.2 k hlt
    have e : (ls ++ [l]).getD k [] = ls.getD k [] := by simp [hlt, List.getElem?_append_left hlt]
    rw [e]
    exact ⟨A', c', by rw [List.getElem?_append_left (by rw [h.1]; exact hlt)]; exact h1, h2⟩
  · have hk' : k = ls.length := by simp at hk; omega
    subst hk'
    have e : (ls ++ [l]).getD ls.length [] = l := by simp
    rw [e]
    exact ⟨A, c, by rw [List.getElem?_append_right (by rw [h.1]; exact Nat.le_refl _), h.1]; simp, ho⟩
end

set_option maxRecDepth 100000 in
theorem cloneI_c (A : Option Addr) (l : List Int) (cap : Nat) (w : World) (hlen : l.length ≤ 1000) (hr : Rd w A (ints l)) :
    Calls Try.prog 55 #[.slice A l.length cap] w fun e w' => ∃ A' c', e = .returned (.slice A' l.length c') ∧ w'.ownsRow w.heap.size 3 1 (.slice A' l.length c') l.length (ints l) ∧ Below w.heap.size w w' := by
  obtain ⟨i0, hi, hz0, hz1, hz2⟩ := info_parts int_info
  have qT : ∀ (w : World) (a : Option Addr) (n c n' c' : Nat), (binOp .eql 34 (.slice a n c) (.slice none n' c')).run Try.prog w = .ok (.bool a.isNone) w := fun w a n c n' c' => Lib.run_eql_slice_nil w _ _ a n c n' c' Try.underlying34
  cases A with
  | none =>
    have h0 : l = [] := by
      rcases hr with h | ⟨_, _, h, _⟩
      · cases l with
        | nil => rfl
        | cons a t => simp [ints] at h
      · cases h
    subst h0
    go_enter Try.func55, Try.ntmps55
    go_wp2_with (fail)
    go_ret
    exact ⟨none, 0, rfl, World.ownsRow_nil _ _ _ _, Below.refl _ _⟩
  | some ad =>
    have hown := World.ownsRow_made (e := 3) (size := 1) w #[] 0 (Nat.le_refl _) (by decide) rfl
    have hb0 : Below w.heap.size w (w.alloc (.cells #[] 3)) := bl_alloc (Below.refl _ _) _
    obtain ⟨A', c', w2, hrun, hown2, hg2⟩ := run_append_rows (P := Try.prog) (w.alloc (.cells #[] 3)) w.heap.size 34 3 i0 _ 1 8 Try.underlying34 hi hz0 hz1 hz2 rfl (by decide) _ 0 [] hown (some ad) l.length cap (ints l) (by simp) (ints_one _) (hr.later hb0) (by unfold maxLen; omega) (by omega) hb0.size
    have E1 := Lib.hid hrun
    clear hrun
    have hb2 : Below w.heap.size w w2 := hb0.trans (grown_below hown hg2 hb0.size)
    have hown3 : w2.ownsRow w.heap.size 3 1 (.slice A' l.length c') l.length (ints l) := by
      simpa using hown2
    clear hown hg2 hown2
    go_enter Try.func55, Try.ntmps55
    go_wp2_with (at_builtin; refine wpList_append_eq rfl _ _ 34 rfl _ _ _ w2 rfl rfl E1.out ?_)
    go_ret
    exact ⟨A', c', by simp, hown3, hb2⟩

/-- The heats of the ions below m behind act k; the rows of the first k acts. -/
def rowT (m : Nat) (l : List T3) (k : Nat) : List Int := (List.range m).map fun (i : Nat) => heatO (l.take (k + 1)) (i : Int)
def rowsT (m : Nat) (l : List T3) (k : Nat) : List (List Int) := (List.range k).map (rowT m l)
theorem rowT_len (m : Nat) (l : List T3) (k : Nat) : (rowT m l k).length = m := by simp [rowT]
theorem rowsT_len (m : Nat) (l : List T3) (k : Nat) : (rowsT m l k).length = k := by simp [rowsT]
theorem rowsT_succ (m : Nat) (l : List T3) (k : Nat) : rowsT m l (k + 1) = rowsT m l k ++ [rowT m l k] := by simp [rowsT, List.range_succ]
theorem rowT_four {m : Nat} (h : m ≤ 4) (l : List T3) (k : Nat) : [heatO (l.take (k + 1)) 0, heatO (l.take (k + 1)) 1, heatO (l.take (k + 1)) 2, heatO (l.take (k + 1)) 3].take m = rowT m l k := by
  match m, h with
  | 0, _ => rfl
  | 1, _ => rfl
  | 2, _ => rfl
  | 3, _ => rfl
  | 4, _ => rfl
theorem MomK.grown {w w' : World} {g gt : Nat} {l : List T3} {k : Nat} (h : MomK w g l k) (hg : w.grownBy w' (some gt)) (hne : g ≠ gt) : MomK w' g l k := by
  obtain ⟨cs, h1, h2, h3⟩ := h
  exact ⟨cs, (hg.block g h1.lt fun he => hne (Option.some.inj he)).trans h1, h2, h3⟩
theorem MomK.ne {w : World} {g gt base n c : Nat} {l : List T3} {k : Nat} {xs : List Value} (h : MomK w g l k) (ho : w.ownsRow base 34 1 (.slice (some ⟨gt, 0, none⟩) n c) n xs) : g ≠ gt := by
  obtain ⟨cs, h1, _, _⟩ := h
  rcases ho.2 with ⟨h0, _⟩ | ⟨g', cap, cur, hv, _, hh, _⟩
  · cases h0
  · injection hv with e1
    injection e1 with e1
    injection e1 with e1
    subst e1
    intro e
    subst e
    have h2 : w.heap[g]? = some (.cells cs 72 (0, 0)) := h1
    rw [h2] at hh
    injection hh with hh
    injection hh with _ h4
    exact absurd h4 (by decide)
theorem made_table (n : Nat) (hn : n ≤ 1000) (w : World) : ∃ w', (Instr.makeSlice 25 (.int .i64 n) (.int .i64 n)).run Try.prog w = .ok (.slice (some ⟨w.heap.size, 0, none⟩) n n) w' ∧
    w'.ownsRow w.heap.size 34 1 (.slice (some ⟨w.heap.size, 0, none⟩) n n) n (List.replicate n (.slice none 0 0)) ∧ Below w.heap.size w w' := by
  obtain ⟨i0, hi, hz0, hz1, hz2⟩ := info_parts slice_info
  obtain ⟨w', h1, h2, h3⟩ := run_make_full (P := Try.prog) w w.heap.size 25 34 i0 _ 1 Try.underlying25 hi hz0 hz1 .i64 .i64 n (by rw [hz2]; omega) (by unfold maxLen; omega) (Nat.le_refl _)
  refine ⟨w', h1, ?_, (Below.refl _ w).grown h3 (Nat.le_refl _) (fun k e => by cases e)⟩
  have e : (madeCells (Value.slice none 0 0).cells (n * 1)).toList = List.replicate n (.slice none 0 0) := by
    rw [Nat.mul_one]; exact toList_madeCells_one _ _
  rwa [e] at h2
theorem fillT {hs : List Value} {k g : Nat} (x z : Value) (hk : hs.length = k) : (hs ++ List.replicate (g + 1) z).set k x = (hs ++ [x]) ++ List.replicate g z := by
  rw [List.set_append_right _ _ (by omega), hk, Nat.sub_self, List.replicate_succ, List.set_cons_zero]
  simp

/-- The answer of a function that gives a table and an error. -/
def OutTab (ls : List (List Int)) (x : Int) (w : World) (e : Ending) (w' : World) : Prop :=
  ∃ A c hs, e = .returned (.tuple #[.slice A ls.length c, .int .i64 x]) ∧ Rd w' A hs ∧ (∃ base, Tab w' base hs ls) ∧ Below w.heap.size w w'
def traceG (n : Int) (l : List T3) : List (List Int) := if validE n l = 0 then rowsT n.toNat l l.length else []

set_option maxRecDepth 100000 in
set_option maxHeartbeats 4000000 in
theorem Trace_c (n : Int) (A : Option Addr) (l : List T3) (c : Nat) (w : World) (hlen : l.length ≤ 1000) (hr : Rd w A (cellsT l)) :
    Calls Try.prog 20 #[.int .i64 n, .slice A l.length c] w (OutTab (traceG n l) (validE n l) w) := by
  have HV := Lib.hid (validate_c n A l c w hlen hr)
  by_cases hv : validE n l = 0
  · have ha := validE_acts hv
    obtain ⟨hn1, hn4⟩ := (validE_zero.1 hv).1
    have HB : traceG n l = rowsT n.toNat l l.length := by rw [traceG, if_pos hv]
    rw [hv] at HV
    rw [hv, HB]
    clear HB hv
    obtain ⟨m, rfl⟩ : ∃ m : Nat, n = m := ⟨n.toNat, by omega⟩
    rw [Int.toNat_natCast]
    have hm4 : m ≤ 4 := by omega
    have hm1 : 1 ≤ m := by omega
    have HM := fun w1 h => Lib.hid (momentsOf_c A l c w1 hlen ha h)
    have HMT := fun w1 => Lib.hid (made_table l.length hlen w1)
    go_enter Try.func20, Try.ntmps20
    go_wp2_with (fail)
    refine HV.out.mono ?_
    rintro e w1 ⟨rfl, hb1⟩
    obtain ⟨wt, hmk, hot, hbt⟩ := (HMT w1).out
    go_wp2_with (fail)
    refine (HM _ ((hr.later hb1).later hbt)).out.mono ?_
    rintro e w2 ⟨g, rfl, hm2, hb2⟩
    have hot2 := own_call hot hb2
    have hbw := bl_call (bl_call hb1 hbt) hb2
    have hbase : w.heap.size ≤ w1.heap.size := hb1.size
    have hot3 := own_base hot2 hbase
    have hgt : Hid (w.heap.size ≤ w1.heap.size) := hbase
    generalize w1.heap.size = gt at *
    clear HM HMT HV hot hmk hot2 hbase
    go_wp2_with (fail)
    go_loopg [22] l.length (fun gk iv wr => ∃ k : Nat, Hid (k + gk = l.length) ∧ iv = .int .i64 (k : Int) ∧ Below w.heap.size w wr ∧ MomK wr g l l.length ∧ ∃ hs, Tab wr w.heap.size hs (rowsT m l k) ∧ wr.ownsRow w.heap.size 34 1 (.slice (some ⟨gt, 0, none⟩) l.length l.length) l.length (hs ++ List.replicate gk (.slice none 0 0)))
    case atStart => exact ⟨0, by simp [Hid], rfl, hbw, hm2, [], Tab.nil _ _, hot3⟩
    case round =>
      obtain ⟨k, HK, rfl, hb, hm, hs, htab, hown⟩ := hrel
      rcases gk with _ | gi
      · obtain rfl : k = l.length := HK.out
        have hrd := (own_rd hown).1
        rw [List.replicate_zero, List.append_nil] at hrd
        have HL := Lib.hid (rowsT_len m l l.length)
        go_wp2_with (fail)
        go_ret2
        exact ⟨some ⟨gt, 0, none⟩, l.length, hs, by rw [HL.out]; rfl, hrd, ⟨_, htab⟩, hb⟩
      · have hkl : k < l.length := by have := HK.out; omega
        have hkl' : (k : Int) < (l.length : Int) := by omega
        obtain ⟨c0, c1, c2, c3, c4, c5, c6⟩ := hm.read hkl
        have hne := hm.ne hown
        have HR4 := Lib.hid (rowT_four hm4 l k)
        have HS := Lib.hid (rowsT_succ m l k)
        have HRL := Lib.hid (rowT_len m l k)
        have hhs : hs.length = k := by rw [htab.1, rowsT_len]
        have HHS := Lib.hid hhs
        clear hhs
        generalize (l.getD k t0).1 = v0 at *
        generalize (l.getD k t0).2.1 = v1 at *
        generalize (l.getD k t0).2.2 = v2 at *
        generalize heatO (l.take (k + 1)) 0 = v3 at *
        generalize heatO (l.take (k + 1)) 1 = v4 at *
        generalize heatO (l.take (k + 1)) 2 = v5 at *
        generalize heatO (l.take (k + 1)) 3 = v6 at *
        have hal := bl_alloc (Below.refl wr.heap.size wr) (.cells #[.int .i64 v0, .int .i64 v1, .int .i64 v2, .int .i64 v3, .int .i64 v4, .int .i64 v5, .int .i64 v6] 72)
        have hbx := Bx.new wr 72 #[.int .i64 v0, .int .i64 v1, .int .i64 v2, .int .i64 v3, .int .i64 v4, .int .i64 v5, .int .i64 v6]
        have hrd : Rd (wr.alloc (.cells #[.int .i64 v0, .int .i64 v1, .int .i64 v2, .int .i64 v3, .int .i64 v4, .int .i64 v5, .int .i64 v6] 72)) (some ⟨wr.heap.size, 3, none⟩) (ints [v3, v4, v5, v6]) := by
          refine .inr ⟨wr.heap.size, 3, rfl, by simp, fun j v hv => ?_⟩
          rw [Bx.cell hbx (3 + j)]
          match j, hv with
          | 0, hv => simpa [ints] using hv
          | 1, hv => simpa [ints] using hv
          | 2, hv => simpa [ints] using hv
          | 3, hv => simpa [ints] using hv
          | j + 4, hv => simp [ints] at hv
        have hrd2 : Rd (wr.alloc (.cells #[.int .i64 v0, .int .i64 v1, .int .i64 v2, .int .i64 v3, .int .i64 v4, .int .i64 v5, .int .i64 v6] 72)) (some ⟨wr.heap.size, 3, none⟩) (ints (rowT m l k)) := by
          rw [← HR4.out]
          have h := hrd
          rw [← List.take_append_drop m [v3, v4, v5, v6]] at h
          have e : ∀ p q : List Int, ints (p ++ q) = ints p ++ ints q := fun p q => by simp [ints]
          rw [e] at h
          exact h.head
        have HCL := Lib.hid (cloneI_c (some ⟨wr.heap.size, 3, none⟩) (rowT m l k) 4 _ (by rw [HRL.out]; omega) hrd2)
        rw [HRL.out] at HCL
        generalize rowT m l k = R at *
        generalize rowsT m l k = RS at *
        have hm4' : (m : Int) ≤ 4 := by omega
        clear hrd hrd2 hbx
        go_wp2_with (fail)
        refine HCL.out.mono ?_
        rintro e w3 ⟨A3, c3', rfl, ho3, hb3⟩
        have hb03 := bl_call hal hb3
        have hown3 := own_call hown hb03
        have htab3 := (htab.call hb03).snoc (l := R) (c := c3') (A := A3) (by rw [HRL.out]; exact own_base ho3 (Nat.le_trans hb.size hal.size))
        have hm3 := hm.call hb03
        have z0 := hown3.cellAt k (by omega)
        have z1 := hown3.frozenAt k
        have z2 : (hs ++ List.replicate (gi + 1) (Value.slice none 0 0))[k]? = some (.slice none 0 0) := by
          rw [List.getElem?_append_right (by rw [HHS.out]; exact Nat.le_refl _), HHS.out, Nat.sub_self]; rfl
        rw [z2] at z0
        have hst := hown3.stored k (.slice A3 m c3')
        rw [fillT _ _ HHS.out] at hst
        obtain ⟨hst1, hst2⟩ := hst
        have htab4 := Lib.hid (htab3.grown hown3 (by decide) hst2)
        have hm5 := Lib.hid (hm3.grown hst2 hne)
        have hst1 := Lib.hid hst1
        have hbs := Lib.hid (bl_set (bl_call hb hb03) (g := gt) (i := k) hgt.out (.slice A3 m c3'))
        clear hst2 htab3 hown3 hm3 hown htab hm z2
        go_wp2_with (fail)
        go_roundg gi
        case rel => exact ⟨k + 1, by have := HK.out; show _ = _; omega, by go_num, hbs.out, hm5.out, hs ++ [.slice A3 m c3'], by rw [HS.out]; have h := htab4.out; rw [HRL.out] at h; exact h, hst1.out⟩
        case measure => omega
  · have HB : traceG n l = [] := by rw [traceG, if_neg hv]
    have hv' : (validE n l != 0) = true := by simpa using hv
    rw [HB]
    clear HB
    generalize validE n l = ev at *
    go_enter Try.func20, Try.ntmps20
    go_wp2_with (go_at_call 24; refine HV.out.mono ?_; rintro e w1 ⟨rfl, hb1⟩)
    go_ret2
    exact ⟨none, 0, [], rfl, .inl rfl, ⟨0, Tab.nil _ _⟩, hb1⟩
end Go.Proofs.Ytlhnbknilcmleaa
