/- A short circuit with a gate behind it, shortened where it can be. -/
import Derived.Test.YteoajadcdjaalaaDel
namespace Go.Proofs.Yteoajadcdjaalaa
open Go.RowKit

def typeG (g h : G) : Bool := typeB g.1 g.2.1 g.2.2.1 h.1 h.2.1 h.2.2.1
def commG (g h : G) : Bool := commB g.1 g.2.1 g.2.2.1 h.1 h.2.1 h.2.2.1
/-- The last place before j of a gate of g's type, if all behind it up to j commute with g. -/
def findW (l : List G) (g : G) : Nat → Option Nat
  | 0 => none
  | j + 1 => if typeG (l.getD j g0) g then some j else if commG (l.getD j g0) g then findW l g j else none
def sumW (x g : G) : Int := (x.2.2.2 + g.2.2.2) % 16
def setW (x g : G) : G := (x.1, x.2.1, x.2.2.1, sumW x g)
def withL (l : List G) (g : G) : List G :=
  match findW l g l.length with
  | none => l ++ [g]
  | some j => if sumW (l.getD j g0) g = 0 then l.eraseIdx j else l.set j (setW (l.getD j g0) g)
theorem findW_lt (l : List G) (g : G) : ∀ j k, findW l g j = some k → k < j
  | 0, k, h => by simp [findW] at h
  | j + 1, k, h => by
    rw [findW] at h
    split at h
    · cases h; omega
    · split at h
      · have := findW_lt l g j k h; omega
      · cases h
theorem withL_none {l : List G} {g : G} (h : findW l g l.length = none) : withL l g = l ++ [g] := by simp only [withL, h]
theorem withL_some {l : List G} {g : G} {j : Nat} (h : findW l g l.length = some j) : withL l g = if sumW (l.getD j g0) g = 0 then l.eraseIdx j else l.set j (setW (l.getD j g0) g) := by simp only [withL, h]
theorem withL_len (l : List G) (g : G) : (withL l g).length ≤ l.length + 1 := by
  cases h : findW l g l.length with
  | none => rw [withL_none h]; simp
  | some j =>
    rw [withL_some h]
    split
    · rw [List.length_eraseIdx]; split <;> omega
    · simp

/-- Which angles a gate may have. -/
def Ang (g : G) : Prop := 1 ≤ g.2.2.2 ∧ g.2.2.2 ≤ 15
theorem withL_ang {l : List G} {g : G} (h : ∀ x ∈ l, Ang x) (hg : Ang g) : ∀ x ∈ withL l g, Ang x := by
  cases hf : findW l g l.length with
  | none => rw [withL_none hf]; intro x hx; rcases List.mem_append.1 hx with hx | hx
            · exact h x hx
            · rw [List.mem_singleton.1 hx]; exact hg
  | some j =>
    have hj := findW_lt l g _ _ hf
    rw [withL_some hf]
    split
    · intro x hx; exact h x (List.mem_of_mem_eraseIdx hx)
    · rename_i hs
      intro x hx
      rcases List.mem_or_eq_of_mem_set hx with hx | rfl
      · exact h x hx
      · have hx := h (l.getD j g0) (by simp [hj])
        unfold Ang at *
        simp only [setW, sumW] at *
        omega
theorem cellsG_set (l : List G) (j : Nat) (g x : G) (hx : l.getD j g0 = x) (h1 : x.1 = g.1) (h2 : x.2.1 = g.2.1) (h3 : x.2.2.1 = g.2.2.1) : (cellsG l).set (j * 4 + 3) (.int .i64 g.2.2.2) = cellsG (l.set j g) := by
  induction l generalizing j with
  | nil => simp [cellsG]
  | cons a t ih =>
    cases j with
    | zero =>
      simp at hx
      subst hx
      simp [cellsG, h1, h2, h3]
    | succ j =>
      have h := ih j (by simpa using hx)
      rw [Nat.succ_mul, show j * 4 + 4 + 3 = (j * 4 + 3) + 4 by omega]
      simp only [cellsG, List.flatMap_cons, List.set_cons_succ, List.cons_append, List.nil_append] at h ⊢
      rw [h]
theorem own_set {w : World} {base n g c p : Nat} {e : TypeId} {xs : List Value} (h : w.ownsRow base e 4 (.slice (some ⟨g, 0, none⟩) n c) n xs) (u : Value) : (w.setCell ⟨g, p, none⟩ u).ownsRow base e 4 (.slice (some ⟨g, 0, none⟩) n c) n (xs.set p u) := by
  rcases h.2 with ⟨h0, _⟩ | ⟨g', cap, cur, hv, hb, hg, hn, hm, hs, ht⟩
  · cases h0
  · injection hv with e1 _ e2
    injection e1 with e1
    injection e1 with e1
    subst e1 e2
    refine ⟨by simpa using h.1, .inr ⟨g, c, cur.setIfInBounds p u, rfl, hb, ?_, hn, hm, by simpa using hs, ?_⟩⟩
    · rw [setCell_eq_setRow w g p cur e (0, 0) u hg]; exact setRow_heap w g cur _ e _ hg
    · rw [← ht, Array.toList_setIfInBounds, List.take_set]

theorem own_gate {w : World} {base c j : Nat} {A : Option Addr} {l : List G} {e : TypeId} (h : w.ownsRow base e 4 (.slice A l.length c) l.length (cellsG l)) (hj : j < l.length) :
    ∃ gb, A = some ⟨gb, 0, none⟩ ∧ base ≤ gb ∧ gb < w.heap.size ∧ w.cell? ⟨gb, j * 4, none⟩ = some (.int .i64 (l.getD j g0).1) ∧ w.cell? ⟨gb, j * 4 + 1, none⟩ = some (.int .i64 (l.getD j g0).2.1) ∧ w.cell? ⟨gb, j * 4 + 2, none⟩ = some (.int .i64 (l.getD j g0).2.2.1) ∧ w.cell? ⟨gb, j * 4 + 3, none⟩ = some (.int .i64 (l.getD j g0).2.2.2) ∧ w.frozen? ⟨gb, j * 4 + 3, none⟩ = false := by
  have h0 := h
  rcases h.2 with ⟨_, hn⟩ | ⟨g', cap, cur, hv, hb, hg, hn, hm, hs, ht⟩
  · omega
  · injection hv with e1 _ e2
    subst e1 e2
    have hc : ∀ k u, (cellsG l)[k]? = some u → w.cell? ⟨g', k, none⟩ = some u := fun k u hu => by
      have := h0.cells (g := g') rfl k u hu
      have e1 : (⟨g', 0, none⟩ : Addr).add k = ⟨g', k, none⟩ := by unfold Addr.add; split <;> simp_all
      rwa [e1] at this
    obtain ⟨q0, q1, q2, q3⟩ := cellsG_get l j hj
    exact ⟨g', rfl, hb, (Array.getElem?_eq_some_iff.1 hg).1, hc _ _ q0, hc _ _ q1, hc _ _ q2, hc _ _ q3, by simp [World.frozen?, hg]⟩

def WithOut (base : Nat) (l : List G) (g : G) (w : World) (e : Ending) (w' : World) : Prop :=
  ∃ A' c', e = .returned (.slice A' (withL l g).length c') ∧ w'.ownsRow base 23 4 (.slice A' (withL l g).length c') (withL l g).length (cellsG (withL l g)) ∧ Below base w w'

set_option maxRecDepth 100000 in
set_option maxHeartbeats 4000000 in
theorem with_c (base : Nat) (A : Option Addr) (l : List G) (c : Nat) (k a b t : Int) (w : World) (hlen : l.length ≤ 100) (hang : ∀ x ∈ l, Ang x) (ht : Ang (k, a, b, t)) (hb : base ≤ w.heap.size) (hown : w.ownsRow base 23 4 (.slice A l.length c) l.length (cellsG l)) :
    Calls Try.prog 96 #[.slice A l.length c, .agg #[.int .i64 k, .int .i64 a, .int .i64 b, .int .i64 t]] w (WithOut base l (k, a, b, t) w) := by
  obtain ⟨i0, hi, hz0, hz1, hz2⟩ := info_parts gate_info
  have hx0 := Bx.new w 23 #[.int .i64 k, .int .i64 a, .int .i64 b, .int .i64 t]
  have hbw : Below w.heap.size w (w.alloc (.cells #[.int .i64 k, .int .i64 a, .int .i64 b, .int .i64 t] 23)) := bl_alloc (Below.refl _ _) _
  have hown0 := own_call hown hbw
  go_enter Try.func96, Try.ntmps96
  go_wp2_with (fail)
  go_loopw [5] (fun i wr => ∃ j : Nat, j ≤ l.length ∧ i = .int .i64 ((j : Int) - 1) ∧ Hid (findW l (k, a, b, t) l.length = findW l (k, a, b, t) j) ∧ Below w.heap.size w wr ∧ Bx wr w.heap.size 23 #[.int .i64 k, .int .i64 a, .int .i64 b, .int .i64 t] ∧ wr.ownsRow base 23 4 (.slice A l.length c) l.length (cellsG l)) (fun i _ => (intOf i + 1).toNat)
  case atStart => exact ⟨l.length, Nat.le_refl _, rfl, rfl, hbw, hx0, hown0⟩
  case round =>
    obtain ⟨jj, hjj, hu5, hf, hbr, hxr, hor⟩ := hrel
    clear hx0 hbw hown0 hown
    rcases jj with _ | j
    · subst hu5
      have HN : findW l (k, a, b, t) l.length = none := hf.out
      obtain ⟨dd0, dd1, dd2, dd3, _, _, _, _⟩ := (hxr).four
      have hal : Below wr.heap.size wr (wr.alloc (.cells #[.int .i64 k, .int .i64 a, .int .i64 b, .int .i64 t] 23)) := bl_alloc (Below.refl _ _) _
      have hrd : Rd (wr.alloc (.cells #[.int .i64 k, .int .i64 a, .int .i64 b, .int .i64 t] 23)) (some ⟨wr.heap.size, 0, none⟩) (cellsG [(k, a, b, t)]) := Bx.rd (cs := [.int .i64 k, .int .i64 a, .int .i64 b, .int .i64 t]) (Bx.new wr 23 #[.int .i64 k, .int .i64 a, .int .i64 b, .int .i64 t])
      have hoa := own_call hor hal
      have hws : w.heap.size ≤ wr.heap.size := (hbr).size
      have hsa : base ≤ (wr.alloc (.cells #[.int .i64 k, .int .i64 a, .int .i64 b, .int .i64 t] 23)).heap.size := by simp; omega
      have hba : Below base w (wr.alloc (.cells #[.int .i64 k, .int .i64 a, .int .i64 b, .int .i64 t] 23)) := ((hbr).mono hb).trans (hal.mono (by omega))
      go_wp2_with (at_builtin; refine wpList_append_any rfl _ _ 69 rfl base 23 i0 _ 32 Try.underlying69 hi hz0 hz1 hz2 rfl _ l.length (cellsG l) rfl hoa (some ⟨wr.heap.size, 0, none⟩) [(k, a, b, t)] 1 rfl hrd (by unfold maxLen; simp; omega) (by simp; omega) hsa ?_)
      intro A' c' w2 hown2 hg2
      have hb2 : Below base w w2 := hba.trans (grown_below hoa hg2 hsa)
      have hown3 : w2.ownsRow base 23 4 (.slice A' (withL l (k, a, b, t)).length c') (withL l (k, a, b, t)).length (cellsG (withL l (k, a, b, t))) := by
        rw [withL_none HN, cellsG_append]
        simpa using hown2
      have hl3 : Hid ((withL l (k, a, b, t)).length = l.length + 1) := by show _ = _; rw [withL_none HN]; simp
      clear hown2 hg2 hoa
      go_wp2_with (fail)
      go_ret
      exact ⟨A', c', by rw [hl3.out]; rfl, hown3, hb2⟩
    · have hu5' : u5 = .int .i64 (j : Int) := by rw [hu5]; congr 1; omega
      clear hu5
      subst hu5'
      have hjl : j < l.length := by omega
      have hj0 : (0 : Int) ≤ (j : Int) := by omega
      have hmem : l.getD j g0 ∈ l := by simp [hjl]
      have hax := hang _ hmem
      obtain ⟨gb, rfl, hbg, hgs, c0, c1, c2, c3, f3⟩ := own_gate hor hjl
      have HF : Hid (findW l (k, a, b, t) (j + 1) = if typeG (l.getD j g0) (k, a, b, t) then some j else if commG (l.getD j g0) (k, a, b, t) then findW l (k, a, b, t) j else none) := rfl
      have HS : Hid (∀ y, l.getD j g0 = y → l.getD j g0 = y) := fun _ h => h
      obtain ⟨x, hx⟩ : ∃ x, x = l.getD j g0 := ⟨_, rfl⟩
      rw [← hx] at c0 c1 c2 c3 hax HF
      have hxH : Hid (l.getD j g0 = x) := hx.symm
      clear hx hmem HS
      obtain ⟨xk, xa, xb, xt⟩ := x
      simp only [] at c0 c1 c2 c3
      obtain ⟨d0, d1, d2, d3, _, _, _, _⟩ := hxr.four
      have HT : Hid (typeG (xk, xa, xb, xt) (k, a, b, t) = typeB xk xa xb k a b) := rfl
      have HC : Hid (commG (xk, xa, xb, xt) (k, a, b, t) = commB xk xa xb k a b) := rfl
      have HTc := fun w => Lib.hid (sameType_c xk xa xb xt k a b t w)
      have HCc := fun w => Lib.hid (commute_c xk xa xb xt k a b t w)
      generalize typeB xk xa xb k a b = tb at HT HTc
      generalize commB xk xa xb k a b = cb at HC HCc
      cases tb with
      | true =>
        go_wp2_with (fail)
        go_region_with (go_at_call 78; refine (HTc _).out.mono ?_; rintro e w1 ⟨rfl, hb1⟩)
        all_goals
          have hbd : Below wr.heap.size wr w1 := bl_call ((Below.refl wr.heap.size wr).drew) hb1
          have hor1 := own_call hor hbd
          have hxr1 := hxr.call hbd
          have hb1w := bl_call hbr hbd
          obtain ⟨gb', hgb', _, hgs1, e0, e1, e2, e3, f3'⟩ := own_gate hor1 hjl
          obtain rfl : gb = gb' := by injection hgb' with h; injection h
          rw [hxH.out] at e0 e1 e2 e3
          simp only [] at e0 e1 e2 e3
          obtain ⟨y0, y1, y2, y3, _, _, _, _⟩ := hxr1.four
          obtain ⟨z1, z2⟩ : 1 ≤ xt ∧ xt ≤ 15 := hax
          obtain ⟨z3, z4⟩ : 1 ≤ t ∧ t ≤ 15 := ht
          clear c0 c1 c2 c3 d0 d1 d2 d3 f3 hor hxr HTc HCc hgb' hang
          have HN : findW l (k, a, b, t) l.length = some j := by rw [hf.out, HF.out, HT.out]; rfl
          have hown2 : ((w1.setCell ⟨gb, j * 4 + 3, none⟩ (.int .i64 ((xt + t) % 16))).drew).ownsRow base 23 4 (.slice (some ⟨gb, 0, none⟩) l.length c) l.length (cellsG (l.set j (xk, xa, xb, (xt + t) % 16))) := by
            rw [← cellsG_set l j (xk, xa, xb, (xt + t) % 16) (xk, xa, xb, xt) hxH.out rfl rfl rfl]
            exact own_call (own_set hor1 _) (Below.refl _ _).drew
          have hb2 : Below base w ((w1.setCell ⟨gb, j * 4 + 3, none⟩ (.int .i64 ((xt + t) % 16))).drew) := ((hb1w.mono hb).setCell (p := ⟨gb, j * 4 + 3, none⟩) hbg _).drew
          by_cases hs : (xt + t) % 16 = 0
          · have HD := delete_c base (some ⟨gb, 0, none⟩) (l.set j (xk, xa, xb, (xt + t) % 16)) c j _ (by simp; omega) (by simpa using hjl) (by rw [List.length_set]; exact hown2)
            rw [List.length_set, List.eraseIdx_set_eq] at HD
            rw [hs] at HD hb2
            have HD' := Lib.hid HD
            have HW : Hid (withL l (k, a, b, t) = l.eraseIdx j) := by
              rw [withL_some HN, hxH.out]
              exact if_pos hs
            clear HD hown2
            go_wp2_with (fail)
            go_region
            all_goals
              go_wp2_with (fail)
              refine HD'.out.mono ?_
              rintro e w3 ⟨rfl, hown3, hb3⟩
              go_wp2_with (fail)
              go_ret
              exact ⟨some ⟨gb, 0, none⟩, c, by rw [HW.out]; rfl, by rw [HW.out]; exact hown3, hb2.trans hb3⟩
          · have HW : Hid (withL l (k, a, b, t) = l.set j (xk, xa, xb, (xt + t) % 16)) := by
              rw [withL_some HN, hxH.out]
              exact if_neg hs
            have hH2 := Lib.hid hown2
            clear hown2
            go_wp2_with (fail)
            go_region
            all_goals
              go_wp2_with (fail)
              go_ret
              exact ⟨some ⟨gb, 0, none⟩, c, by rw [HW.out, List.length_set]; rfl, by rw [HW.out, List.length_set]; exact hH2.out, hb2⟩
      | false =>
        go_wp2_with (fail)
        go_region_with (go_at_call 78; refine (HTc _).out.mono ?_; rintro e w1 ⟨rfl, hb1⟩)
        all_goals
          have hbd : Below wr.heap.size wr w1 := bl_call ((Below.refl wr.heap.size wr).drew) hb1
          have hor1 := own_call hor hbd
          have hxr1 := hxr.call hbd
          have hb1w := bl_call hbr hbd
          obtain ⟨gb', hgb', _, hgs1, e0, e1, e2, e3, f3'⟩ := own_gate hor1 hjl
          obtain rfl : gb = gb' := by injection hgb' with h; injection h
          rw [hxH.out] at e0 e1 e2 e3
          simp only [] at e0 e1 e2 e3
          obtain ⟨y0, y1, y2, y3, _, _, _, _⟩ := hxr1.four
          clear c0 c1 c2 c3 d0 d1 d2 d3 f3 hor hxr HTc hgb' hang
          cases cb with
          | true =>
            go_wp2_with (fail)
            go_region_with (go_at_call 56; refine (HCc _).out.mono ?_; rintro e w3 ⟨rfl, hb3⟩)
            all_goals
              have hbd3 : Below w1.heap.size w1 w3 := bl_call ((Below.refl w1.heap.size w1).drew) hb3
              go_wp2_with (fail)
              go_roundw
              case rel => exact ⟨j, by omega, rfl, by show _ = _; rw [hf.out, HF.out, HT.out, HC.out]; rfl, bl_call hb1w hbd3, hxr1.call hbd3, own_call hor1 hbd3⟩
              case measure => simp [intOf]
          | false =>
            have HN : findW l (k, a, b, t) l.length = none := by rw [hf.out, HF.out, HT.out, HC.out]; rfl
            go_wp2_with (fail)
            go_region_with (go_at_call 56; refine (HCc _).out.mono ?_; rintro e w3 ⟨rfl, hb3⟩)
            all_goals
              have hbd3 : Below w1.heap.size w1 w3 := bl_call ((Below.refl w1.heap.size w1).drew) hb3
              have hb3w := bl_call hb1w hbd3
              have hx3 := hxr1.call hbd3
              have ho3 := own_call hor1 hbd3
              clear e0 e1 e2 e3 y0 y1 y2 y3 f3' hxr1 hor1 HF hf HCc
              obtain ⟨dd0, dd1, dd2, dd3, _, _, _, _⟩ := (hx3).four
              have hal : Below w3.heap.size w3 (w3.alloc (.cells #[.int .i64 k, .int .i64 a, .int .i64 b, .int .i64 t] 23)) := bl_alloc (Below.refl _ _) _
              have hrd : Rd (w3.alloc (.cells #[.int .i64 k, .int .i64 a, .int .i64 b, .int .i64 t] 23)) (some ⟨w3.heap.size, 0, none⟩) (cellsG [(k, a, b, t)]) := Bx.rd (cs := [.int .i64 k, .int .i64 a, .int .i64 b, .int .i64 t]) (Bx.new w3 23 #[.int .i64 k, .int .i64 a, .int .i64 b, .int .i64 t])
              have hoa := own_call ho3 hal
              have hws : w.heap.size ≤ w3.heap.size := (hb3w).size
              have hsa : base ≤ (w3.alloc (.cells #[.int .i64 k, .int .i64 a, .int .i64 b, .int .i64 t] 23)).heap.size := by simp; omega
              have hba : Below base w (w3.alloc (.cells #[.int .i64 k, .int .i64 a, .int .i64 b, .int .i64 t] 23)) := ((hb3w).mono hb).trans (hal.mono (by omega))
              go_wp2_with (at_builtin; refine wpList_append_any rfl _ _ 69 rfl base 23 i0 _ 32 Try.underlying69 hi hz0 hz1 hz2 rfl _ l.length (cellsG l) rfl hoa (some ⟨w3.heap.size, 0, none⟩) [(k, a, b, t)] 1 rfl hrd (by unfold maxLen; simp; omega) (by simp; omega) hsa ?_)
              intro A' c' w2 hown2 hg2
              have hb2 : Below base w w2 := hba.trans (grown_below hoa hg2 hsa)
              have hown3 : w2.ownsRow base 23 4 (.slice A' (withL l (k, a, b, t)).length c') (withL l (k, a, b, t)).length (cellsG (withL l (k, a, b, t))) := by
                rw [withL_none HN, cellsG_append]
                simpa using hown2
              have hl3 : Hid ((withL l (k, a, b, t)).length = l.length + 1) := by show _ = _; rw [withL_none HN]; simp
              clear hown2 hg2 hoa
              go_wp2_with (fail)
              go_ret
              exact ⟨A', c', by rw [hl3.out]; rfl, hown3, hb2⟩
end Go.Proofs.Yteoajadcdjaalaa
