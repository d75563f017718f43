/- All choices with their costs and totals: package budget's. -/
import Derived.Test.YtgbjglkiaoplmaaCls
namespace Go.Proofs.Ytgbjglkiaoplmaa
open Go.RowKit

section
variable {w w' : World} {base base' e e' size size' n n' : Nat} {v v' : Value} {xs xs' : List Value}
/-- Rows of different types lie in different blocks. -/
theorem own_ne (h : w.ownsRow base e size v n xs) (h' : w.ownsRow base' e' size' v' n' xs') (hne : e ≠ e') : ∀ k, v.ownBlock = some k → v'.ownBlock ≠ some k := by
  intro k hk hk'
  rcases h.2 with ⟨rfl, _⟩ | ⟨g, cap, cur, rfl, _, hg, _⟩
  · cases hk
  · rcases h'.2 with ⟨rfl, _⟩ | ⟨g', cap', cur', rfl, _, hg', _⟩
    · cases hk'
    · cases hk; cases hk'
      have hg1 : w.heap[g]? = some (.cells cur e (0, 0)) := hg
      have hg2 : w.heap[g]? = some (.cells cur' e' (0, 0)) := hg'
      rw [hg1] at hg2
      injection hg2 with h1
      injection h1 with _ h2
      exact hne h2
end
/-- hs are slices that read as the lists ls, each of them a row of its own from base on. -/
def Tab (w : World) (base : Nat) (hs : List Value) (ls : List (List Int)) : Prop :=
  hs.length = ls.length ∧ ∀ k, k < ls.length → ∃ A c, hs[k]? = some (.slice A (ls.getD k []).length c) ∧ w.ownsRow base 3 1 (.slice A (ls.getD k []).length c) (ls.getD k []).length (ints (ls.getD k []))
section
variable {w w' : World} {base base' : Nat} {hs : List Value} {ls : List (List Int)}
theorem Tab.nil (w : World) (base : Nat) : Tab w base [] [] := ⟨rfl, fun k h => by simp at h⟩
theorem Tab.lower (h : Tab w base hs ls) (hb : base' ≤ base) : Tab w base' hs ls :=
  ⟨h.1, fun k hk => by obtain ⟨A, c, h1, h2⟩ := h.2 k hk; exact ⟨A, c, h1, own_base h2 hb⟩⟩
theorem Tab.call (h : Tab w base hs ls) (hb : Below w.heap.size w w') : Tab w' base hs ls :=
  ⟨h.1, fun k hk => by obtain ⟨A, c, h1, h2⟩ := h.2 k hk; exact ⟨A, c, h1, own_call h2 hb⟩⟩

/-- A row of another type may be written. -/
theorem Tab.grown (h : Tab w base hs ls) {e b n s : Nat} {v : Value} {xs : List Value} (ho : w.ownsRow b e s v n xs) (hne : 3 ≠ e) (hg : w.grownBy w' v.ownBlock) : Tab w' base hs ls :=
  ⟨h.1, fun k hk => by
    obtain ⟨A, c, h1, h2⟩ := h.2 k hk
    refine ⟨A, c, h1, h2.kept hg ?_⟩
    cases hA : (Value.slice A (ls.getD k []).length c).ownBlock with
    | none => exact .inl rfl
    | some j => exact .inr (fun e => own_ne h2 ho hne j hA e.symm)⟩
theorem Tab.snoc (h : Tab w base hs ls) {A : Option Addr} {l : List Int} {c : Nat} (ho : w.ownsRow base 3 1 (.slice A l.length c) l.length (ints l)) : Tab w base (hs ++ [.slice A l.length c]) (ls ++ [l]) := by
  refine ⟨by simp [h.1], fun k hk => ?_⟩
  rcases Nat.lt_or_ge k ls.length with hlt | hge
  · obtain ⟨A', c', h1, h2⟩ := h.2 k hlt
    have e : (ls ++ [l]).getD k [] = ls.getD k [] := by simp [hlt, List.getElem?_append_left hlt]
    rw [e]
    exact ⟨A', c', by rw [List.getElem?_append_left (by rw [h.1]; exact hlt)]; exact h1, h2⟩
  · have hk' : k = ls.length := by simp at hk; omega
    subst hk'
    have e : (ls ++ [l]).getD ls.length [] = l := by simp
    rw [e]
    exact ⟨A, c, by rw [List.getElem?_append_right (by rw [h.1]; exact Nat.le_refl _), h.1]; simp, ho⟩
end
theorem option_info : (Try.prog.info? 95).map (fun i => (i.zero, i.size, i.bytes)) = some (some (.agg #[.slice none 0 0, .int .i64 0, .int .i64 0, .int .i64 0]), 4, 48) := by kernel_rfl
def cellsO (l : List (Value × Op)) : List Value := l.flatMap fun a => [a.1, .int .i64 a.2.k, .int .i64 (rat a.2.p).1, .int .i64 (rat a.2.p).2]
@[simp] theorem cellsO_length (l : List (Value × Op)) : (cellsO l).length = l.length * 4 := by
  induction l with
  | nil => rfl
  | cons a t ih => simp only [cellsO, List.flatMap_cons, List.length_append, List.length_cons, List.length_nil] at ih ⊢; omega
theorem cellsO_snoc (l : List (Value × Op)) (a : Value × Op) : cellsO (l ++ [a]) = cellsO l ++ [a.1, .int .i64 a.2.k, .int .i64 (rat a.2.p).1, .int .i64 (rat a.2.p).2] := by simp [cellsO]
theorem append_option (base : Nat) (w : World) (v : Value) (l : List (Value × Op)) (h : Value) (o : Op) (hh : h.oneCell' = true) (hown : w.ownsRow base 95 4 v l.length (cellsO l)) (hlen : l.length ≤ 1000) (hb : base ≤ w.heap.size) :
    ∃ A' c' w', (∀ ty, (Builtin.append_ #[101, 101] ty #[v, .slice (some ⟨w.heap.size, 0, none⟩) 1 1]).run Try.prog (w.alloc (.cells #[h, .int .i64 o.k, .int .i64 (rat o.p).1, .int .i64 (rat o.p).2] 95)) = .ok (.slice A' (l.length + 1) c') w') ∧ w'.ownsRow base 95 4 (.slice A' (l.length + 1) c') (l ++ [(h, o)]).length (cellsO (l ++ [(h, o)])) ∧ Below base w w' ∧ (∀ hs ls, Tab w base hs ls → Tab w' base hs ls) := by
  obtain ⟨i0, hi, hz0, hz1, hz2⟩ := info_parts option_info
  have hrd : Rd (w.alloc (.cells #[h, .int .i64 o.k, .int .i64 (rat o.p).1, .int .i64 (rat o.p).2] 95)) (some ⟨w.heap.size, 0, none⟩) [h, .int .i64 o.k, .int .i64 (rat o.p).1, .int .i64 (rat o.p).2] := Bx.rd (Bx.new w _ _)
  have hs : base ≤ (w.alloc (.cells #[h, .int .i64 o.k, .int .i64 (rat o.p).1, .int .i64 (rat o.p).2] 95)).heap.size := by rw [World.size_alloc]; omega
  obtain ⟨A', c', w2, h1, h2, h3⟩ := run_append_rows (P := Try.prog) _ base 101 95 i0 _ 4 48 Try.underlying101 hi hz0 hz1 hz2 rfl (by decide) v l.length (cellsO l) (hown.alloc _) (some ⟨w.heap.size, 0, none⟩) 1 1 _ rfl (fun u hu => by simp only [List.mem_cons, List.not_mem_nil, or_false] at hu; rcases hu with rfl | rfl | rfl | rfl <;> first | exact hh | rfl) hrd (by unfold maxLen; omega) (by omega) hs
  refine ⟨A', c', w2, h1, ?_, ((Below.refl base w).alloc hb _).trans (grown_below (hown.alloc _) h3 hs), fun hs' ls ht => (ht.call (bl_alloc (Below.refl _ _) _)).grown (hown.alloc _) (by decide) h3⟩
  rw [cellsO_snoc]
  simpa using h2
theorem chos_asc_ok {fs : List Fx} {b : Nat} (h : b < 2 ^ fs.length) : InF fs (chosTo b 8) := fun k hk => by
  have := chos_in (n := 8) h ((chosTo b 8)[k]) (List.getElem_mem hk)
  rw [getD_of hk]; exact this
set_option maxRecDepth 100000 in
set_option maxHeartbeats 4000000 in
theorem options_c (A : Option Addr) (l : List It) (cap : Nat) (B : Option Addr) (fs : List Fx) (cap2 : Nat) (w : World) (hv : vfE l fs = 0) (hr : Rd w A (cellsI l)) (hf : Rd w B (cellsF fs)) :
    Calls Try.prog 86 #[.slice A l.length cap, .slice B fs.length cap2] w fun e w' => ∃ A' c' L, e = .returned (.slice A' L.length c') ∧ L.map (·.2) = optL l fs ∧ w'.ownsRow w.heap.size 95 4 (.slice A' L.length c') L.length (cellsO L) ∧ Tab w' w.heap.size (L.map (·.1)) (L.map (·.2.c)) ∧ Below w.heap.size w w' := by
  obtain ⟨h1, h2, h3⟩ := vfE_ok hv
  have hl6 := (valE_ok h1).1
  have hp : 2 ^ fs.length ≤ 256 := Nat.le_trans (Nat.pow_le_pow_right (by decide) h2) (by decide)
  have HC := Lib.hid (fun b (hb : b < 2 ^ fs.length) w => Lib.hid (chosen_c b w (by omega)))
  have HT := Lib.hid (fun b (hb : b < 2 ^ fs.length) C cap3 w (hf : Rd w B (cellsF fs)) (hk : Rd w C (ints (chosTo b 8))) => Lib.hid (hasTwo_c B fs cap2 C (chosTo b 8) cap3 w (by have := chos_len b 8; omega) (chos_asc_ok hb) (fun k hk => by have := (fixB_iff.1 (h3 k hk)).1; omega) hf hk))
  have HW := Lib.hid (fun b (hb : b < 2 ^ fs.length) C cap3 w (hr : Rd w A (cellsI l)) (hf : Rd w B (cellsF fs)) (hk : Rd w C (ints (chosTo b 8))) => Lib.hid (with_c A l cap B fs cap2 C (chosTo b 8) cap3 w hv (chos_asc_ok hb) (by have := chos_len b 8; omega) hr hf hk))
  have HTo := Lib.hid (fun b (hb : b < 2 ^ fs.length) D cap3 w (hd : Rd w D (cellsI (withL l fs (chosTo b 8)).1)) => Lib.hid (by
    have hbet := (with_bet hv (chos_asc_ok hb) (chosTo b 8).length (Nat.le_refl _)).1
    have hvm := hbet.val h1
    have := totalOf_c D (withL l fs (chosTo b 8)).1 cap3 8 w (val_ok hvm) (valE_ok hvm).1 (by decide) hd
    rw [withL_len] at this
    exact this))
  have HS : Hid (∀ b, optTo l fs (b + 1) = if diffB fs (chosTo b 8) (chosTo b 8).length = true then optTo l fs b ++ [opOf l fs (chosTo b 8)] else optTo l fs b) := fun b => rfl
  have HL := Lib.hid (optTo_len l fs)
  have HA : Hid (optL l fs = optTo l fs (2 ^ fs.length)) := rfl
  have H0 : Hid (optTo l fs 0 = []) := rfl
  have q : wrap64 (2 ^ min fs.length 64) = ((2 ^ fs.length : Nat) : Int) := by
    rw [Nat.min_eq_left (by omega)]
    have e : (2 : Int) ^ fs.length = ((2 ^ fs.length : Nat) : Int) := by rw [Int.natCast_pow]; rfl
    rw [e]
    clear e
    generalize 2 ^ fs.length = N at *
    exact IntWalk.wrap64_in _ ⟨by omega, by omega⟩
  clear h1 h2 h3 hv
  generalize 2 ^ fs.length = N at *
  go_enter Try.func86, Try.ntmps86
  go_wp2_with (fail)
  rw [q]
  clear q
  go_loopg [5, 13] N (fun gk ov iv wr => ∃ (b : Nat) (A' : Option Addr) (c' : Nat) (L : List (Value × Op)), Hid (b + gk = N) ∧ iv = .int .i64 (b : Int) ∧ ov = .slice A' L.length c' ∧ Hid (L.map (·.2) = optTo l fs b) ∧ wr.ownsRow w.heap.size 95 4 (.slice A' L.length c') L.length (cellsO L) ∧ Tab wr w.heap.size (L.map (·.1)) (L.map (·.2.c)) ∧ Below w.heap.size w wr)
  case atStart => exact ⟨0, none, 0, [], by simp [Hid], rfl, rfl, by rw [H0.out]; rfl, World.ownsRow_nil _ _ _ _, Tab.nil _ _, Below.refl _ _⟩
  case round =>
    obtain ⟨b, A', c', L, HK, rfl, rfl, HO, hown, htab, hb⟩ := hrel
    rcases gk with _ | gi
    · obtain rfl : b = N := HK.out
      go_wp2_with (fail)
      go_ret
      exact ⟨A', c', L, rfl, by rw [HA.out]; exact HO.out, hown, htab, hb⟩
    · have hbN : b < N := by have := HK.out; omega
      have hbN' : (b : Int) < (N : Int) := by omega
      have HCb := Lib.hid (HC.out b hbN)
      have HTb := Lib.hid (HT.out b hbN)
      have HWb := Lib.hid (HW.out b hbN)
      have HTob := Lib.hid (HTo.out b hbN)
      have HSb := Lib.hid (HS.out b)
      have HLb : L.length ≤ 255 := by have h := congrArg List.length HO.out; rw [List.length_map] at h; have := HL.out b; omega
      have Hopk : Hid (opOf l fs (chosTo b 8) = ⟨chosTo b 8, (withL l fs (chosTo b 8)).2, partsL (withL l fs (chosTo b 8)).1⟩) := rfl
      generalize diffB fs (chosTo b 8) (chosTo b 8).length = z at *
      generalize opOf l fs (chosTo b 8) = op at *
      generalize withL l fs (chosTo b 8) = wl at *
      generalize chosTo b 8 = ch at *
      go_wp2_with (fail)
      refine (HCb.out _).out.mono ?_
      rintro e w1 ⟨C, c3, rfl, hch, hb1⟩
      have hb01 := bl_call hb hb1
      have hown1 := own_call hown hb1
      have htab1 := htab.call hb1
      have hch1 := own_base hch hb.size
      clear hown htab hch hb1
      go_wp2_with (fail)
      refine (HTb.out _ _ _ (hf.later hb01) (own_rd hch1).1).out.mono ?_
      rintro e w2 ⟨rfl, hb2⟩
      have hb02 := bl_call hb01 hb2
      have hown2 := own_call hown1 hb2
      have htab2 := htab1.call hb2
      have hch2 := own_call hch1 hb2
      clear hown1 htab1 hch1 hb2
      cases z with
      | false =>
        go_wp2_with (fail)
        go_roundg gi
        case rel => exact ⟨b + 1, A', c', L, by have := HK.out; show _ = _; omega, by go_num, rfl, by rw [HSb.out]; exact HO.out, hown2, htab2, hb02⟩
        case measure => omega
      | true =>
        go_wp2_with (fail)
        refine (HWb.out _ _ _ (hr.later hb02) (hf.later hb02) (own_rd hch2).1).out.mono ?_
        rintro e w3 ⟨D, c4, rfl, hw3, hb3⟩
        have hb03 := bl_call hb02 hb3
        have hown3 := own_call hown2 hb3
        have htab3 := htab2.call hb3
        have hch3 := own_call hch2 hb3
        clear hown2 htab2 hch2 hb3
        go_wp2_with (fail)
        refine (HTob.out _ _ _ (own_rd hw3).1).out.mono ?_
        rintro e w4 ⟨rfl, hb4⟩
        have hb04 := bl_call hb03 hb4
        have hown4 := own_call hown3 hb4
        have htab4 := htab3.call hb4
        have hch4 := own_call hch3 hb4
        clear hown3 htab3 hch3 hb4 hw3
        obtain ⟨A2, c2, w5, hrun, hown5, hb5, hkeep⟩ := append_option w.heap.size w4 (.slice A' L.length c') L (.slice C ch.length c3) ⟨ch, wl.2, partsL wl.1⟩ rfl hown4 (by omega) hb04.size
        have E1 := Lib.hid hrun
        have htab5 := (hkeep _ _ (htab4.snoc hch4))
        clear hrun hown4 htab4 hkeep
        go_wp2_with (at_builtin; refine wpList_append_eq rfl _ _ 101 rfl _ _ _ w5 rfl rfl E1.out ?_)
        go_roundg gi
        case rel =>
          refine ⟨b + 1, A2, c2, L ++ [(.slice C ch.length c3, ⟨ch, wl.2, partsL wl.1⟩)], by have := HK.out; show _ = _; omega, by go_num, by simp, ?_, by have := hown5; simp only [List.length_append, List.length_singleton] at this ⊢; exact this, ?_, hb04.trans hb5⟩
          · show _ = _; rw [HSb.out, List.map_append, HO.out, Hopk.out]; rfl
          · rw [List.map_append, List.map_append]; exact htab5
        case measure => omega
end Go.Proofs.Ytgbjglkiaoplmaa
