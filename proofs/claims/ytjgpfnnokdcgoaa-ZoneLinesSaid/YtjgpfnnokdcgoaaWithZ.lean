/- slices.Grow and slices.Concat at lists of links; Without of package zone. -/
import Derived.Test.YtjgpfnnokdcgoaaShelfL
import Derived.Test.YtjgpfnnokdcgoaaTrapA
import Derived.Test.YtjgpfnnokdcgoaaMoves
import Derived.Test.YtjgpfnnokdcgoaaNear3
import Derived.Shelf.Spec.SlicesGrow
namespace Go.Proofs.Ytjgpfnnokdcgoaa
open Go.RowKit Go.Shelf

set_option maxRecDepth 100000 in
theorem growL_c (n : Nat) (hn : n ≤ 100) (w : World) :
    Calls Try.prog 98 #[.slice none 0 0, .int .i64 n] w fun e w' => ∃ A' c, e = .returned (.slice A' 0 c) ∧ w'.ownsRow w.heap.size 69 2 (.slice A' 0 c) 0 (cellsP []) ∧ Below w.heap.size w w' := by
  by_cases h0 : n = 0
  · subst h0
    exact (Any8.slices_Grow_room Try.growL none 0 0 0 w (by omega) (by omega) (by omega) (by omega)).mono fun e w' ⟨he, hw⟩ => ⟨none, 0, he, World.ownsRow_nil _ _ _ _, by rw [hw]; exact Below.refl _ _⟩
  · obtain ⟨i0, hi, hz0, hz1, hz2⟩ := info_parts link_info
    refine (Any8.slices_Grow_grow Try.growL i0 _ hi hz0 (by omega) none 0 0 n [] w (by omega) (by omega) (by rw [hz2]; omega) (by omega) (by simp) (fun _ => rfl) (fun a e => by cases e)).mono fun e w' ⟨he, hw⟩ => ?_
    have hge := grownCap_ge w (0 + n) 0 69
    have hle := grownCap_le_maxLen w (0 + n) 0 69 (by unfold maxLen; omega)
    refine ⟨some ⟨w.heap.size, 0, none⟩, grownCap w (0 + n) 0 69, he, ?_, ?_⟩
    · rw [hw]
      refine World.ownsRow_made (e := 69) (size := 2) w.drew _ _ (Nat.le_refl _) hle ?_
      simp only [Array.size_append, size_zeroCells, Value.cells, List.size_toArray, List.length_nil]
      show 0 + (0 + n - 0) * 2 + (grownCap w (0 + n) 0 69 - (0 + n)) * 2 = _
      omega
    · rw [hw]; exact bl_alloc (Below.refl w.heap.size w).drew _

/-- append, whose run is known, as a step. -/
theorem wpList_append_eq {P : Program} {w : World} {ops : Array Oper} {rest : List Oper} {o : Oper} {a : Act} {Q : Exit → Act → World → Prop} (hgd : o.guard = none) (s x : Operand) (t : TypeId)
    (ho : o.op = .call { callee := .builtin .append, args := #[s, x], argTypes := #[t, t] }) (v1 v2 v' : Value) (W2 : World) (hs : a.eval s = v1) (hx : a.eval x = v2)
    (hrun : ∀ ty, (Builtin.append_ #[t, t] ty #[v1, v2]).run P w = .ok v' W2) (h : wpList P ops Q rest (a.put o.dst v') W2) : wpList P ops Q (o :: rest) a w := by
  refine wpList_plain hgd fun K hK => ?_
  unfold Oper.wp execOp
  simp only [ho, resolve, invoke, builtin, Sem.run_bind, Sem.run_pure, Result.andThen_ok, List.map_toArray, List.map_cons, List.map_nil, hs, hx, hrun]
  exact hK _ _ h

set_option maxRecDepth 100000 in
set_option maxHeartbeats 1000000 in
theorem concatL_c (A B : Option Addr) (p q : List (Int × Int)) (cap cap' g c : Nat) (w : World) (hp : p.length ≤ 40) (hq : q.length ≤ 40) (hx : Bx w g 22 #[.slice A p.length cap, .slice B q.length cap'])
    (hr : Rd w A (cellsP p)) (hs : Rd w B (cellsP q)) :
    Calls Try.prog 85 #[.slice (some ⟨g, 0, none⟩) 2 c] w fun e w' => ∃ A' c', e = .returned (.slice A' (p.length + q.length) c') ∧ w'.ownsRow w.heap.size 69 2 (.slice A' (p.length + q.length) c') (p.length + q.length) (cellsP (p ++ q)) ∧ Below w.heap.size w w' := by
  obtain ⟨i0, hi, hz0, hz1, hz2⟩ := info_parts link_info
  obtain ⟨i1, i2, i3, i4⟩ := hx.two
  have hgr := fun w1 => Lib.hid (growL_c (p.length + q.length) (by omega) w1)
  go_enter Try.func85, Try.ntmps85
  go_wp2_with (fail)
  go_loop [3, 11] (fun s i => (i = .int .i64 0 ∧ s = .int .i64 0) ∨ (i = .int .i64 1 ∧ s = .int .i64 p.length) ∨ (i = .int .i64 2 ∧ s = .int .i64 ((p.length + q.length : Nat) : Int))) (fun _ i => 2 - (intOf i).toNat)
  case atStart => exact .inl ⟨rfl, rfl⟩
  case round =>
    rcases hrel with ⟨rfl, rfl⟩ | ⟨rfl, rfl⟩ | ⟨rfl, rfl⟩
    · have hn : ¬ ((p.length : Int) < 0) := by omega
      go_wp2_with (fail)
      go_round
      case rel => exact .inr (.inl ⟨rfl, by go_num⟩)
      case measure => simp [intOf]
    · have hn : ¬ ((p.length : Int) + (q.length : Int) < 0) := by omega
      go_wp2_with (fail)
      go_round
      case rel => exact .inr (.inr ⟨rfl, by go_num⟩)
      case measure => simp [intOf]
    · go_wp2_with (fail)
      refine (hgr w).out.mono ?_
      rintro e w1 ⟨A1, c1, rfl, hown1, hb1⟩
      have hx1 := hx.call hb1
      have hr1 := hr.later hb1
      have hs1 := hs.later hb1
      clear hgr i1 i2 i3 i4
      go_wp2_with (fail)
      go_loopw [6, 27] (fun v i wr => ((i = .int .i64 0 ∧ wr.ownsRow w.heap.size 69 2 v 0 (cellsP [])) ∨ (i = .int .i64 1 ∧ wr.ownsRow w.heap.size 69 2 v p.length (cellsP p)) ∨ (i = .int .i64 2 ∧ wr.ownsRow w.heap.size 69 2 v (p.length + q.length) (cellsP (p ++ q)))) ∧ Below w.heap.size w wr) (fun _ i _ => 2 - (intOf i).toNat)
      case atStart => exact ⟨.inl ⟨rfl, hown1⟩, hb1⟩
      case round =>
        obtain ⟨hrel, hb⟩ := hrel
        have hxr := hx.call hb
        obtain ⟨j1, j2, j3, j4⟩ := hxr.two
        have hrr := hr.later hb
        have hsr := hs.later hb
        clear hx1 hr1 hs1 hown1
        rcases hrel with ⟨rfl, hown⟩ | ⟨rfl, hown⟩ | ⟨rfl, hown⟩
        · obtain ⟨A', c', w2, hrun, hown2, hg2⟩ := run_append_rows (P := Try.prog) wr w.heap.size 22 69 i0 _ 2 16 Try.underlying22 hi hz0 hz1 hz2 rfl (by decide) _ 0 (cellsP []) hown A p.length cap (cellsP p) (by simp) (cellsP_one _) hrr (by unfold maxLen; omega) (by omega) hb.size
          have E1 := Lib.hid hrun
          clear hrun
          go_wp2_with (at_builtin; refine wpList_append_eq rfl _ _ 22 rfl _ _ _ w2 rfl rfl E1.out ?_)
          have hb2 : Below w.heap.size w w2 := hb.trans (grown_below hown hg2 hb.size)
          try simp only [Nat.zero_add] at hown2 E1
          have hown3 : w2.ownsRow w.heap.size 69 2 (.slice A' p.length c') p.length (cellsP p) := hown2
          clear hown hg2 hown2
          go_wp2_with (fail)
          go_roundw
          case rel => exact ⟨.inr (.inl ⟨rfl, hown3⟩), hb2⟩
          case measure => simp [intOf]
        · obtain ⟨A', c', w2, hrun, hown2, hg2⟩ := run_append_rows (P := Try.prog) wr w.heap.size 22 69 i0 _ 2 16 Try.underlying22 hi hz0 hz1 hz2 rfl (by decide) _ p.length (cellsP p) hown B q.length cap' (cellsP q) (by simp) (cellsP_one _) hsr (by unfold maxLen; omega) (by omega) hb.size
          have E1 := Lib.hid hrun
          clear hrun
          go_wp2_with (at_builtin; refine wpList_append_eq rfl _ _ 22 rfl _ _ _ w2 rfl rfl E1.out ?_)
          have hb2 : Below w.heap.size w w2 := hb.trans (grown_below hown hg2 hb.size)
          have hown3 : w2.ownsRow w.heap.size 69 2 (.slice A' (p.length + q.length) c') (p.length + q.length) (cellsP (p ++ q)) := by
            rw [cellsP_append]; exact hown2
          clear hown hg2 hown2
          go_wp2_with (fail)
          go_roundw
          case rel => exact ⟨.inr (.inr ⟨rfl, hown3⟩), hb2⟩
          case measure => simp [intOf]
        · obtain ⟨A', c', rfl⟩ := own_form hown
          go_wp2_with (fail)
          go_ret
          exact ⟨A', c', rfl, hown, hb⟩

theorem Rd.head {w : World} {b o : Nat} {X Y : List Value} (h : Rd w (some ⟨b, o, none⟩) (X ++ Y)) : Rd w (some ⟨b, o, none⟩) X := by
  rcases h with h | ⟨b', o', he, hl, hc⟩
  · exact .inl (List.append_eq_nil_iff.1 h).1
  · exact .inr ⟨b', o', he, hl, fun k v hv => hc k v (by rw [List.getElem?_append_left (List.getElem?_eq_some_iff.1 hv).1]; exact hv)⟩
theorem Rd.tail {w : World} {b o : Nat} {X Y : List Value} (h : Rd w (some ⟨b, o, none⟩) (X ++ Y)) : Rd w (some ⟨b, o + X.length, none⟩) Y := by
  rcases h with h | ⟨b', o', he, hl, hc⟩
  · exact .inl (List.append_eq_nil_iff.1 h).2
  · cases he
    refine .inr ⟨b, o + X.length, rfl, hl, fun k v hv => ?_⟩
    rw [Nat.add_assoc]
    exact hc (X.length + k) v (by rw [List.getElem?_append_right (by omega), Nat.add_sub_cancel_left]; exact hv)
theorem head_run (g o n c k : Nat) (h : k ≤ n) (hn : n ≤ c) (w : World) : (Instr.slice 22 (.slice (some ⟨g, o, none⟩) n c) none (some (.int .i64 k)) none).run Try.prog w = .ok (.slice (some ⟨g, o, none⟩) k c) w := by
  have q1 : (k : Int) ≤ (c : Int) := by omega
  have q2 : (0 : Int) ≤ (k : Int) := by omega
  go_simp
theorem from_run (g o n c k : Nat) (h : k < n) (hn : n ≤ c) (hc : c ≤ maxLen) (w : World) : (Instr.slice 22 (.slice (some ⟨g, o, none⟩) n c) (some (.int .i64 ((k : Int) + 1))) none none).run Try.prog w = .ok (.slice (if c = k + 1 then some ⟨g, o, none⟩ else some ⟨g, o + (k + 1) * 2, none⟩) (n - (k + 1)) (c - (k + 1))) w := by
  have q1 : (k : Int) + 1 ≤ (n : Int) := by omega
  have q2 : (0 : Int) ≤ (k : Int) + 1 := by omega
  have q3 : (n : Int) ≤ (c : Int) := by omega
  by_cases hk : c = k + 1
  · subst hk
    go_simp
  · have q4 : ¬ (c : Int) = (k : Int) + 1 := by omega
    go_simp

set_option maxRecDepth 100000 in
set_option maxHeartbeats 4000000 in
theorem Without_c (Z : Int) (A : Option Addr) (l : List (Int × Int)) (c : Nat) (k : Int) (w : World) (hlen : l.length ≤ 1000) (hcap : l.length ≤ c) (hcm : c ≤ maxLen) (hr : Rd w A (cellsP l)) :
    Calls Try.prog 54 #[trapV Z A l.length c, .int .i64 k] w (OutT (withZ Z l k) (withG Z l k) (withE Z l k) w) := by
  have x0 : Bx ((w.alloc (.cells #[.int .i64 Z, .slice A l.length c] 24)).alloc (.cells #[.int .i64 0, .slice none 0 0] 24)) w.heap.size 24 #[.int .i64 Z, .slice A l.length c] := (Bx.newAt rfl).alloc _
  have z0 : Bx ((w.alloc (.cells #[.int .i64 Z, .slice A l.length c] 24)).alloc (.cells #[.int .i64 0, .slice none 0 0] 24)) (w.heap.size + 1) 24 #[.int .i64 0, .slice none 0 0] := Bx.newAt (by simp)
  have hb0 := bl_alloc (bl_alloc (Below.refl w.heap.size w) (.cells #[.int .i64 Z, .slice A l.length c] 24)) (.cells #[.int .i64 0, .slice none 0 0] 24)
  generalize hw0 : (w.alloc (.cells #[.int .i64 Z, .slice A l.length c] 24)).alloc (.cells #[.int .i64 0, .slice none 0 0] 24) = w0 at *
  have HV := Lib.hid (validate_c Z A l c w0 hlen (hr.later hb0))
  have HI := fun w => Lib.hid (isOneOf_c k l.length w)
  obtain ⟨c0, c1, _⟩ := x0.two
  rcases withE_cases Z l k with ⟨h1, hE, hG, hZ⟩ | ⟨h1, h2, hE, hG, hZ⟩ | ⟨h1, h2, hE, hG, hZ⟩
  · rw [hE, hG, hZ]
    clear hE hG hZ
    generalize trapE Z l = te at *
    go_enter Try.func54, Try.ntmps54
    go_wp2_with (fail)
    refine HV.out.mono ?_
    rintro e w1 ⟨rfl, hb1⟩
    have z1 := z0.call hb1
    obtain ⟨f0, f1, f2, f3⟩ := z1.two
    have zF := z1.set2 (.int .i64 0) (.slice none 0 0)
    have hbF := bl_set (bl_set (bl_call hb0 hb1) (g := w.heap.size + 1) (i := 0) (by omega) (.int .i64 0)) (g := w.heap.size + 1) (i := 1) (by omega) (.slice none 0 0)
    go_wp2_with (fail)
    refine bodyPost_ret (results_cell_tmp rfl _ _ (w.heap.size + 1) 24 _ (0, 0) _ _ rfl rfl zF Try.underlying24 rfl (by kernel_rfl)) rfl ?_
    exact ⟨none, 0, rfl, World.ownsRow_nil _ _ _ _, hbF⟩
  · rw [hE, hG, hZ]
    rw [h1] at HV
    rw [h2] at HI
    clear hE hG hZ h1 h2
    go_enter Try.func54, Try.ntmps54
    go_wp2_with (fail)
    refine HV.out.mono ?_
    rintro e w1 ⟨rfl, hb1⟩
    have z1 := z0.call hb1
    clear c0 c1
    obtain ⟨c0, c1, _⟩ := (x0.call hb1).two
    obtain ⟨f0, f1, f2, f3⟩ := z1.two
    have zF := z1.set2 (.int .i64 0) (.slice none 0 0)
    have hbF := bl_set (bl_set (bl_call hb0 hb1) (g := w.heap.size + 1) (i := 0) (by omega) (.int .i64 0)) (g := w.heap.size + 1) (i := 1) (by omega) (.slice none 0 0)
    go_wp2_with (fail)
    refine (HI _).out.mono ?_
    rintro e w2 ⟨rfl, rfl⟩
    go_wp2_with (fail)
    refine bodyPost_ret (results_cell_tmp rfl _ _ (w.heap.size + 1) 24 _ (0, 0) _ _ rfl rfl zF Try.underlying24 rfl (by kernel_rfl)) rfl ?_
    exact ⟨none, 0, rfl, World.ownsRow_nil _ _ _ _, hbF⟩
  · rw [hE, hG, hZ]
    have hl36 := trap_len h1
    rw [h1] at HV
    rw [h2] at HI
    obtain ⟨q1, q2⟩ := zoneOk_iff.1 h2
    obtain ⟨k, rfl⟩ := Int.eq_ofNat_of_zero_le q1
    rw [Int.toNat_natCast]
    have hk : k < l.length := by omega
    obtain ⟨b, o, rfl, hbl, _⟩ := hr.at_ (k := 0) (by rw [cellsP_length]; omega)
    have hpre : (l.take k).length = k := by simp; omega
    have hsuf : (l.drop (k + 1)).length = l.length - (k + 1) := by simp
    have her : l.eraseIdx k = l.take k ++ l.drop (k + 1) := List.eraseIdx_eq_take_drop_succ ..
    have hel : (l.eraseIdx k).length = k + (l.length - (k + 1)) := by rw [her, List.length_append, hpre, hsuf]
    have hrp : ∀ w1, Below w.heap.size w w1 → Rd w1 (some ⟨b, o, none⟩) (cellsP (l.take k)) := fun w1 h => by
      have h2 := hr.later h
      rw [← List.take_append_drop k l, cellsP_append] at h2
      exact h2.head
    have hrq : ∀ w1, Below w.heap.size w w1 → Rd w1 (if c = k + 1 then (some ⟨b, o, none⟩ : Option Addr) else some ⟨b, o + (k + 1) * 2, none⟩) (cellsP (l.drop (k + 1))) := fun w1 h => by
      by_cases hc : c = k + 1
      · rw [List.drop_eq_nil_iff.2 (by omega)]; exact Rd.nil _ _
      · rw [if_neg hc]
        have h2 := hr.later h
        rw [← List.take_append_drop (k + 1) l, cellsP_append] at h2
        have h3 := h2.tail
        rw [cellsP_length, List.length_take, Nat.min_eq_left (by omega)] at h3
        exact h3
    have HC := fun g w1 hx h h' => concatL_c (some ⟨b, o, none⟩) (if c = k + 1 then (some ⟨b, o, none⟩ : Option Addr) else some ⟨b, o + (k + 1) * 2, none⟩) (l.take k) (l.drop (k + 1)) c (c - (k + 1)) g 2 w1 (by omega) (by omega) hx h h'
    rw [hpre, hsuf, ← her, ← hel] at HC
    have hs1 := fun w1 => head_run b o l.length c k (by omega) hcap w1
    have hs2 := fun w1 => from_run b o l.length c k hk hcap hcm w1
    have hw1 : IntKind.i64.wrap ((k : Int) + 1) = (k : Int) + 1 := by simp [IntKind.wrap, IntKind.bits, IntKind.signed]; omega
    generalize (if c = k + 1 then (some ⟨b, o, none⟩ : Option Addr) else some ⟨b, o + (k + 1) * 2, none⟩) = oa at *
    generalize l.length - (k + 1) = n2 at *
    generalize c - (k + 1) = c2 at *
    generalize l.eraseIdx k = m at *
    clear hE hG hZ h1 h2 hpre hsuf her hel q1
    go_enter Try.func54, Try.ntmps54
    go_wp2_with (fail)
    refine HV.out.mono ?_
    rintro e w1 ⟨rfl, hb1⟩
    have x1 := x0.call hb1
    have z1 := z0.call hb1
    have hb01 := bl_call hb0 hb1
    have hzl := z1.lt
    clear c0 c1
    obtain ⟨c0, c1, _⟩ := x1.two
    go_wp2_with (fail)
    refine (HI _).out.mono ?_
    rintro e w2 ⟨rfl, rfl⟩
    have hal : Below w1.heap.size w1 ((w1.alloc (.cells #[.slice (some ⟨b, o, none⟩) k c, .slice oa n2 c2] 22)).drew) := (bl_alloc (Below.refl _ _) _).drew
    have HC2 := Lib.hid (HC w1.heap.size _ (Bx.drew (Bx.new w1 22 #[.slice (some ⟨b, o, none⟩) k c, .slice oa n2 c2])) (hrp _ (bl_call hb01 hal)) (hrq _ (bl_call hb01 hal)))
    have hxl := x1.lt
    clear HC hrp hrq HV HI
    go_wp2_with (fail)
    go_region_with (go_at_call 85; refine HC2.out.mono ?_; rintro e w3 ⟨A3, c3, rfl, ho3, hb3⟩; have hbx := (x1.call (bl_call hal hb3)).two; have hbz := (z1.call (bl_call hal hb3)).two; obtain ⟨p0, p1, p2, p3⟩ := hbx; obtain ⟨r0, r1, r2, r3⟩ := hbz)
    all_goals
      have z3 := z1.call (bl_call hal hb3)
      have zF := z3.set2 (.int .i64 Z) (.slice A3 m.length c3)
      have hbF : Below w.heap.size w ((w3.setCell ⟨w.heap.size + 1, 0, none⟩ (.int .i64 Z)).setCell ⟨w.heap.size + 1, 1, none⟩ (.slice A3 m.length c3)) := bl_set (bl_set (bl_call hb01 (bl_call hal hb3)) (by omega) _) (by omega) _
      have hsA := hal.size
      have hoF : ((w3.setCell ⟨w.heap.size + 1, 0, none⟩ (.int .i64 Z)).setCell ⟨w.heap.size + 1, 1, none⟩ (.slice A3 m.length c3)).ownsRow w.heap.size 69 2 (.slice A3 m.length c3) m.length (cellsP m) := own_base (ownsRow_setCell_below (ownsRow_setCell_below ho3 (a := ⟨w.heap.size + 1, 0, none⟩) (by simp only []; omega) _) (a := ⟨w.heap.size + 1, 1, none⟩) (by simp only []; omega) _) (by omega)
      go_wp2_with (fail)
      refine bodyPost_ret (results_cell_tmp rfl _ _ (w.heap.size + 1) 24 _ (0, 0) _ _ rfl rfl zF Try.underlying24 rfl (by kernel_rfl)) rfl ?_
      exact ⟨A3, c3, rfl, hoF, hbF⟩
end Go.Proofs.Ytjgpfnnokdcgoaa
