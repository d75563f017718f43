/- Traps: results that hold a struct, comparison, copies, append at rows of links, the trap without a link in the specification. -/
import Derived.Test.YtjgpfnnokdcgoaaSameM
import Derived.Test.YtjgpfnnokdcgoaaLine
import Derived.Test.YtjgpfnnokdcgoaaApp
import Derived.Test.YtjgpfnnokdcgoaaNet
import Derived.Laws.OwnMore
import Derived.StillTailTactics
import Derived.Test.YtjgpfnnokdcgoaaRval
import Derived.Test.YtjgpfnnokdcgoaaNetOf
/- Results that hold a struct; traps are compared and copied. -/
namespace Go.Proofs.Ytjgpfnnokdcgoaa
open Go.RowKit Go.Maps

theorem results_cell_tmp {P : Program} {fn : Func} {p q : Tmp} {ty : TypeId} (h : fn.results = #[.cell p ty, .tmp q]) (tmps : Array Value) (w : World) (g : Nat) (t : TypeId) (cs : Array Value) (fr : Nat × Nat) (d : TypeDesc) (x : Value)
    (hp : tmps.getD p undef = .pointer (some ⟨g, 0, none⟩)) (hq : tmps.getD q undef = x) (hg : w.heap[g]? = some (.cells cs t fr))
    (hu : P.underlying ty = some d) (hd : (match d with | .struct _ | .array _ _ => true | _ => false) = true) (hi : (P.info? ty).map (·.size) = some cs.size) :
    (results fn tmps).run P w = .ok (.tuple #[.agg cs, x]) w := by
  have hp' : tmps[p]?.getD undef = .pointer (some ⟨g, 0, none⟩) := by simpa using hp
  have hq' : tmps[q]?.getD undef = x := by simpa using hq
  simp [results, h, hp', hq', asAddr, run_loadVar_row w g t ty cs fr d hg hu hd hi]

set_option maxRecDepth 100000 in
set_option maxHeartbeats 2000000 in
theorem sameT_c (Y Z : Int) (A B : Option Addr) (l m : List (Int × Int)) (c d : Nat) (w : World) (hlen : l.length ≤ 100000) (hr : Rd w A (cellsP l)) (hs : Rd w B (cellsP m)) :
    Calls Try.prog 56 #[trapV Y A l.length c, trapV Z B m.length d] w fun e w' => e = .returned (.bool (decide (Y = Z ∧ l = m))) ∧ Below w.heap.size w w' := by
  have x0 : Bx ((w.alloc (.cells #[.int .i64 Y, .slice A l.length c] 24)).alloc (.cells #[.int .i64 Z, .slice B m.length d] 24)) w.heap.size 24 #[.int .i64 Y, .slice A l.length c] := (Bx.newAt rfl).alloc _
  have z0 : Bx ((w.alloc (.cells #[.int .i64 Y, .slice A l.length c] 24)).alloc (.cells #[.int .i64 Z, .slice B m.length d] 24)) (w.heap.size + 1) 24 #[.int .i64 Z, .slice B m.length d] := Bx.newAt (by simp)
  have hb0 := bl_alloc (bl_alloc (Below.refl w.heap.size w) (.cells #[.int .i64 Y, .slice A l.length c] 24)) (.cells #[.int .i64 Z, .slice B m.length d] 24)
  generalize hw0 : (w.alloc (.cells #[.int .i64 Y, .slice A l.length c] 24)).alloc (.cells #[.int .i64 Z, .slice B m.length d] 24) = w0 at *
  obtain ⟨c0, c1, _⟩ := x0.two
  obtain ⟨d0, d1, _⟩ := z0.two
  by_cases hy : Y = Z
  · subst hy
    have hyn : (Y != Y) = false := by simp
    rw [show decide (Y = Y ∧ l = m) = decide (l = m) by simp]
    by_cases hl : l.length = m.length
    · have hli : ((l.length : Int) != (m.length : Int)) = false := by simp [hl]
      have HL := Lib.hid hl
      clear hl
      go_enter Try.func56, Try.ntmps56
      go_wp2_with (fail)
      clear c0 c1 d0 d1
      go_loopg [5] l.length (fun gk iv wr => ∃ k : Nat, k + gk = l.length ∧ iv = .int .i64 (k : Int) ∧ Hid (l.take k = m.take k) ∧ Below w0.heap.size w0 wr)
      case atStart => exact ⟨0, by omega, rfl, by simp [Hid], Below.refl _ _⟩
      case round =>
        obtain ⟨k, hk, rfl, hall, hb⟩ := hrel
        have hbr := bl_call hb0 hb
        obtain ⟨c0, c1, _⟩ := (x0.call hb).two
        obtain ⟨d0, d1, _⟩ := (z0.call hb).two
        rcases gk with _ | gi
        · obtain rfl : k = l.length := by omega
          have HS : Hid (decide (l = m) = true) := by
            show _ = _
            have h := hall.out
            rw [List.take_length, HL.out, List.take_length] at h
            rw [h]; simp
          go_wp2_with (fail)
          go_ret
          exact ⟨by rw [HS.out]; rfl, hbr⟩
        · have hkl : k < l.length := by omega
          have hkm : k < m.length := by rw [← HL.out]; exact hkl
          have hkl' : (k : Int) < (l.length : Int) := by omega
          have hkm' : (k : Int) < (m.length : Int) := by omega
          have hm' : ((m.length : Nat) : Int) = (l.length : Int) := by rw [HL.out]
          obtain ⟨b1, o1, rfl, _, f0, f1⟩ := (hr.later hbr).pair hkl
          obtain ⟨b2, o2, rfl, _, g0, g1⟩ := (hs.later hbr).pair hkm
          have HX := Lib.hid (sameP_take HL.out hkl)
          generalize l.getD k (0, 0) = x at *
          generalize m.getD k (0, 0) = y at *
          obtain ⟨x0', x1'⟩ := x
          obtain ⟨y0', y1'⟩ := y
          simp only [] at f0 f1 g0 g1
          clear hm'
          by_cases h0 : x0' = y0'
          · by_cases h1 : x1' = y1'
            · subst h0 h1
              have HT : Hid (l.take (k + 1) = m.take (k + 1)) := HX.out.2 ⟨hall.out, rfl⟩
              go_wp2_with (fail)
              go_quiet (fail)
              go_wp2_with (fail)
              go_roundg gi
              case rel => exact ⟨k + 1, by omega, by go_num, HT, below_drewN hb _⟩
              case measure => omega
            · have HD : Hid (decide (l = m) = false) := by
                simp only [Hid, decide_eq_false_iff_not]
                rintro rfl
                have := (HX.out.1 rfl).2
                injection this with _ e
                exact h1 e
              go_wp2_with (fail)
              go_quiet (fail)
              go_wp2_with (fail)
              go_ret
              exact ⟨by rw [HD.out]; rfl, below_drewN hbr _⟩
          · have HD : Hid (decide (l = m) = false) := by
              simp only [Hid, decide_eq_false_iff_not]
              rintro rfl
              have := (HX.out.1 rfl).2
              injection this with e _
              exact h0 e
            go_wp2_with (fail)
            go_quiet (fail)
            go_wp2_with (fail)
            go_ret
            exact ⟨by rw [HD.out]; rfl, below_drewN hbr _⟩
    · have hne : ((l.length : Int) != (m.length : Int)) = true := by simp; omega
      have hd : decide (l = m) = false := by simp only [decide_eq_false_iff_not]; rintro rfl; exact hl rfl
      go_enter Try.func56, Try.ntmps56
      go_wp2_with (fail)
      go_ret
      exact ⟨by rw [hd]; rfl, hb0⟩
  · have hd : decide (Y = Z ∧ l = m) = false := by simp only [decide_eq_false_iff_not]; rintro ⟨rfl, _⟩; exact hy rfl
    have hyn : (Y != Z) = true := by simpa using hy
    go_enter Try.func56, Try.ntmps56
    go_wp2_with (fail)
    go_ret
    exact ⟨by rw [hd]; rfl, hb0⟩
end Go.Proofs.Ytjgpfnnokdcgoaa

/- append(row, q...) at elements of any size, as an equation of its run. -/
namespace Go.Proofs.Ytjgpfnnokdcgoaa
open Go.RowKit Go.Maps

theorem run_append_rows {P : Program} (w : World) (base : Nat) (t e : TypeId) (i : TypeInfo) (z : Value) (size bytes : Nat) (ht : P.underlying t = some (.slice e)) (hi : P.info? e = some i) (hz : i.zero = some z)
    (hsize : i.size = size) (hby : i.bytes = bytes) (hzs : z.cells.size = size) (hs1 : 0 < size) (v : Value) (n : Nat) (xs : List Value) (hown : w.ownsRow base e size v n xs)
    (B : Option Addr) (m c : Nat) (ys : List Value) (hm : ys.length = m * size) (hone : ∀ u ∈ ys, u.oneCell' = true) (hr : Rd w B ys) (h63 : n + m ≤ maxLen) (hbytes : (n + m) * bytes ≤ 140737488355328) (hbase : base ≤ w.heap.size) :
    ∃ A' c' w', (∀ ty, (Builtin.append_ #[t, t] ty #[v, .slice B m c]).run P w = .ok (.slice A' (n + m) c') w') ∧ w'.ownsRow base e size (.slice A' (n + m) c') (n + m) (xs ++ ys) ∧ w.grownBy w' v.ownBlock := by
  have go : ∀ (ad : Addr), B = some ad → (∀ j u, ys[j]? = some u → w.cell? (ad.add j) = some u) → ∃ A' c' w', (∀ ty, (Builtin.append_ #[t, t] ty #[v, .slice B m c]).run P w = .ok (.slice A' (n + m) c') w') ∧ w'.ownsRow base e size (.slice A' (n + m) c') (n + m) (xs ++ ys) ∧ w.grownBy w' v.ownBlock := fun ad hB hn => by
    subst hB
    obtain ⟨v', w', h1, h2, h3, _⟩ := run_append_own_at (P := P) w base t 0 e i z size bytes ht hi hz hsize hby hzs hs1 v n xs hown ad m c ys hm hn hone h63 hbytes hbase
    obtain ⟨A', c', rfl⟩ := own_form h2
    exact ⟨A', c', w', fun ty => h1, h2, h3⟩
  by_cases h0 : 0 < ys.length
  · obtain ⟨b, off, hB, _, hc⟩ := hr.at_ (k := 0) h0
    exact go _ hB (fun j u hj => by
      have hadd : (⟨b, off, none⟩ : Addr).add j = ⟨b, off + j, none⟩ := by unfold Addr.add; split <;> simp_all
      rw [hadd]; exact hc j u hj)
  · have hq : ys = [] := List.length_eq_zero_iff.1 (by omega)
    subst hq
    cases B with
    | some ad => exact go ad rfl (fun j u hj => by simp at hj)
    | none =>
      obtain rfl : m = 0 := by
        rcases Nat.eq_zero_or_pos m with h | h
        · exact h
        · have := Nat.mul_pos h hs1
          rw [← hm] at this; simp at this
      rcases hown.2 with ⟨hv, hxs⟩ | ⟨g, cap, cur, hv, hb, hheap, hle, hmx, hsz, hpre⟩
      · subst hv
        subst hxs
        exact ⟨none, 0, w, fun ty => run_append_nils (P := P) (w := w) t ty e i ht hi c, by simpa using hown, World.grownBy.refl w _⟩
      · subst hv
        have hrun := fun ty => run_append_room_src (P := P) (w := w) t t ty e i ht hi g 0 n cap (.slice none 0 c) 0 [] (Src.ofNil w ht c) (by omega) (by intro j hj; cases hj) (by intro j hj; cases hj)
        have hw : w.setCells g (0 + n * i.size) [] = w := rfl
        rw [hw] at hrun
        exact ⟨_, _, w, hrun, by simpa using hown, World.grownBy.refl w _⟩
theorem cellsP_one (l : List (Int × Int)) : ∀ u ∈ cellsP l, u.oneCell' = true := by
  intro u hu
  rw [cellsP, List.mem_flatMap] at hu
  obtain ⟨x, _, hx⟩ := hu
  simp at hx
  rcases hx with rfl | rfl <;> rfl
/-- A new trap with its own links. -/
def OutT (Z : Int) (l : List (Int × Int)) (x : Int) (w : World) (e : Ending) (w' : World) : Prop :=
  ∃ A' c', e = .returned (.tuple #[trapV Z A' l.length c', .int .i64 x]) ∧ w'.ownsRow w.heap.size 69 2 (.slice A' l.length c') l.length (cellsP l) ∧ Below w.heap.size w w'

set_option maxRecDepth 100000 in
set_option maxHeartbeats 4000000 in
theorem copy_c (Z : Int) (A : Option Addr) (l : List (Int × Int)) (c : Nat) (w : World) (hlen : l.length ≤ 1000) (hr : Rd w A (cellsP l)) :
    Calls Try.prog 53 #[trapV Z A l.length c] w fun e w' => ∃ A' c', e = .returned (trapV Z A' l.length c') ∧ w'.ownsRow w.heap.size 69 2 (.slice A' l.length c') l.length (cellsP l) ∧ Below w.heap.size w w' := by
  obtain ⟨i0, hi, hz0, hz1, hz2⟩ := info_parts link_info
  have x0 : Bx ((w.alloc (.cells #[.int .i64 Z, .slice A l.length c] 24)).alloc (.cells #[.int .i64 0, .slice none 0 0] 24)) w.heap.size 24 #[.int .i64 Z, .slice A l.length c] := (Bx.newAt rfl).alloc _
  have z0 : Bx ((w.alloc (.cells #[.int .i64 Z, .slice A l.length c] 24)).alloc (.cells #[.int .i64 0, .slice none 0 0] 24)) (w.heap.size + 1) 24 #[.int .i64 0, .slice none 0 0] := Bx.newAt (by simp)
  have hb0 := bl_alloc (bl_alloc (Below.refl w.heap.size w) (.cells #[.int .i64 Z, .slice A l.length c] 24)) (.cells #[.int .i64 0, .slice none 0 0] 24)
  generalize hw0 : (w.alloc (.cells #[.int .i64 Z, .slice A l.length c] 24)).alloc (.cells #[.int .i64 0, .slice none 0 0] 24) = w0 at *
  have hal : Below w0.heap.size w0 ((w0.alloc (.cells #[] 69)).drew) := (bl_alloc (Below.refl _ _) _).drew
  have hown : ((w0.alloc (.cells #[] 69)).drew).ownsRow w0.heap.size 69 2 (.slice (some ⟨w0.heap.size, 0, none⟩) 0 0) 0 [] := World.ownsRow_made (e := 69) (size := 2) w0 #[] 0 (Nat.le_refl _) (by decide) rfl
  obtain ⟨A2, c2, W2, hrun, ho2, hg2⟩ := run_append_rows (P := Try.prog) ((w0.alloc (.cells #[] 69)).drew) w0.heap.size 22 69 i0 _ 2 16 Try.underlying22 hi hz0 hz1 hz2 rfl (by decide) _ 0 [] hown A l.length c (cellsP l) (by simp) (cellsP_one l) (hr.later (bl_call hb0 hal)) (by unfold maxLen; omega) (by omega) hal.size
  rw [Nat.zero_add, List.nil_append] at ho2
  simp only [Nat.zero_add] at hrun
  have hbl : Below w0.heap.size w0 W2 := hal.trans (grown_below hown hg2 hal.size)
  have E1 := Lib.hid hrun
  obtain ⟨a0, a1, _⟩ := x0.two
  obtain ⟨b0, b1, _⟩ := (x0.call hal).two
  obtain ⟨e0, e1, _⟩ := (x0.call hbl).two
  obtain ⟨f0, f1, f2, f3⟩ := (z0.call hbl).two
  have hxl := x0.lt
  have hzl := z0.lt
  have zF := (z0.call hbl).set2 (.int .i64 Z) (.slice A2 l.length c2)
  have hbF : Below w.heap.size w ((W2.setCell ⟨w.heap.size + 1, 0, none⟩ (.int .i64 Z)).setCell ⟨w.heap.size + 1, 1, none⟩ (.slice A2 l.length c2)) := bl_set (bl_set (bl_call hb0 hbl) (by omega) _) (by omega) _
  have hoF : ((W2.setCell ⟨w.heap.size + 1, 0, none⟩ (.int .i64 Z)).setCell ⟨w.heap.size + 1, 1, none⟩ (.slice A2 l.length c2)).ownsRow w.heap.size 69 2 (.slice A2 l.length c2) l.length (cellsP l) := own_base (ownsRow_setCell_below (ownsRow_setCell_below ho2 (a := ⟨w.heap.size + 1, 0, none⟩) (by simpa using hzl) _) (a := ⟨w.heap.size + 1, 1, none⟩) (by simpa using hzl) _) (by omega)
  clear hrun hown hg2 ho2 x0 z0 hal hbl
  go_enter Try.func53, Try.ntmps53
  go_wp2_with (fail)
  go_region_law (refine step_append_run rfl (.tmp 5) (.tmp 7) 22 rfl (.slice (some ⟨w0.heap.size, 0, none⟩) 0 0) (.slice A l.length c) (.slice A2 l.length c2) W2 (by simp [Act.eval]) (by simp [Act.eval]) E1.out ?_)
  all_goals
    go_wp2_with (fail)
    refine bodyPost_ret (results_cell_row rfl _ _ (w.heap.size + 1) 24 _ (0, 0) _ rfl zF Try.underlying24 rfl (by kernel_rfl)) rfl ?_
    exact ⟨A2, c2, rfl, hoF, hbF⟩
end Go.Proofs.Ytjgpfnnokdcgoaa

/- A trap without a link, in the specification. -/
namespace Go.Proofs.Ytjgpfnnokdcgoaa
open Go.RowKit Go.Maps

/-- The links without the one with the number k, as far as the first j go. -/
def woL (l : List (Int × Int)) (k j : Nat) : List (Int × Int) := (l.take j).eraseIdx k
theorem woL_zero (l : List (Int × Int)) (k : Nat) : woL l k 0 = [] := by simp [woL]
theorem woL_all (l : List (Int × Int)) (k : Nat) : woL l k l.length = l.eraseIdx k := by simp [woL]
theorem woL_len (l : List (Int × Int)) (k j : Nat) : (woL l k j).length ≤ j := by
  have := List.length_eraseIdx_le (l.take j) k
  rw [woL]; rw [List.length_take] at this; omega
theorem woL_skip {l : List (Int × Int)} {k : Nat} (hk : k < l.length) : woL l k (k + 1) = woL l k k := by
  rw [woL, woL, List.take_succ_eq_append_getElem hk, List.eraseIdx_append_of_length_le (by simp; omega)]
  have e : k - (l.take k).length = 0 := by simp; omega
  rw [e, List.eraseIdx_of_length_le (l := l.take k) (by simp; omega)]
  simp
theorem woL_add {l : List (Int × Int)} {k j : Nat} (hj : j < l.length) (hne : j ≠ k) : woL l k (j + 1) = woL l k j ++ [l.getD j (0, 0)] := by
  have e : l.getD j (0, 0) = l[j] := by simp [hj]
  rw [e, woL, woL, List.take_succ_eq_append_getElem hj]
  rcases Nat.lt_or_ge k j with h | h
  · rw [List.eraseIdx_append_of_lt_length (by simp; omega)]
  · rw [List.eraseIdx_of_length_le (by simp; omega), List.eraseIdx_of_length_le (by simp; omega)]
def withE (Z : Int) (l : List (Int × Int)) (k : Int) : Int := if trapE Z l = 0 then (if zoneOk l.length k then 0 else 4) else trapE Z l
def withG (Z : Int) (l : List (Int × Int)) (k : Int) : List (Int × Int) := if withE Z l k = 0 then l.eraseIdx k.toNat else []
def withZ (Z : Int) (l : List (Int × Int)) (k : Int) : Int := if withE Z l k = 0 then Z else 0
theorem withE_cases (Z : Int) (l : List (Int × Int)) (k : Int) : (trapE Z l ≠ 0 ∧ withE Z l k = trapE Z l ∧ withG Z l k = [] ∧ withZ Z l k = 0) ∨ (trapE Z l = 0 ∧ zoneOk l.length k = false ∧ withE Z l k = 4 ∧ withG Z l k = [] ∧ withZ Z l k = 0) ∨
    (trapE Z l = 0 ∧ zoneOk l.length k = true ∧ withE Z l k = 0 ∧ withG Z l k = l.eraseIdx k.toNat ∧ withZ Z l k = Z) := by
  by_cases h : trapE Z l = 0
  · cases hz : zoneOk l.length k with
    | false =>
      have e : withE Z l k = 4 := by rw [withE, if_pos h, hz]; rfl
      exact .inr (.inl ⟨h, rfl, e, by rw [withG, e]; rfl, by rw [withZ, e]; rfl⟩)
    | true =>
      have e : withE Z l k = 0 := by rw [withE, if_pos h, hz]; rfl
      exact .inr (.inr ⟨h, rfl, e, by rw [withG, if_pos e], by rw [withZ, if_pos e]⟩)
  · have e : withE Z l k = trapE Z l := by rw [withE, if_neg h]
    exact .inl ⟨h, e, by rw [withG, e, if_neg h], by rw [withZ, e, if_neg h]⟩

set_option maxRecDepth 100000 in
set_option maxHeartbeats 4000000 in
theorem rWithout_c (Z : Int) (A : Option Addr) (l : List (Int × Int)) (c : Nat) (k : Int) (w : World) (hlen : l.length ≤ 1000) (hr : Rd w A (cellsP l)) :
    Calls Try.prog 55 #[trapV Z A l.length c, .int .i64 k] w (OutT (withZ Z l k) (withG Z l k) (withE Z l k) w) := by
  obtain ⟨i0, hi, hz0, hz1, hz2⟩ := info_parts link_info
  have x0 : Bx ((w.alloc (.cells #[.int .i64 Z, .slice A l.length c] 24)).alloc (.cells #[.int .i64 0, .slice none 0 0] 24)) w.heap.size 24 #[.int .i64 Z, .slice A l.length c] := (Bx.newAt rfl).alloc _
  have z0 : Bx ((w.alloc (.cells #[.int .i64 Z, .slice A l.length c] 24)).alloc (.cells #[.int .i64 0, .slice none 0 0] 24)) (w.heap.size + 1) 24 #[.int .i64 0, .slice none 0 0] := Bx.newAt (by simp)
  have hb0 := bl_alloc (bl_alloc (Below.refl w.heap.size w) (.cells #[.int .i64 Z, .slice A l.length c] 24)) (.cells #[.int .i64 0, .slice none 0 0] 24)
  generalize hw0 : (w.alloc (.cells #[.int .i64 Z, .slice A l.length c] 24)).alloc (.cells #[.int .i64 0, .slice none 0 0] 24) = w0 at *
  have HV := Lib.hid (rvalidate_c Z A l c w0 hlen (hr.later hb0))
  obtain ⟨c0, c1, _⟩ := x0.two
  rcases withE_cases Z l k with ⟨h1, hE, hG, hZ⟩ | ⟨h1, h2, hE, hG, hZ⟩ | ⟨h1, h2, hE, hG, hZ⟩
  · rw [hE, hG, hZ]
    clear hE hG hZ
    generalize trapE Z l = te at *
    go_enter Try.func55, Try.ntmps55
    go_wp2_with (fail)
    refine HV.out.mono ?_
    rintro e w1 ⟨rfl, hb1⟩
    have z1 := z0.call hb1
    obtain ⟨f0, f1, f2, f3⟩ := z1.two
    have zF := z1.set2 (.int .i64 0) (.slice none 0 0)
    have hbF := bl_set (bl_set (bl_call hb0 hb1) (g := w.heap.size + 1) (i := 0) (by omega) (.int .i64 0)) (g := w.heap.size + 1) (i := 1) (by omega) (.slice none 0 0)
    go_wp2_with (fail)
    refine bodyPost_ret (results_cell_tmp rfl _ _ (w.heap.size + 1) 24 _ (0, 0) _ _ rfl rfl zF Try.underlying24 rfl (by kernel_rfl)) rfl ?_
    exact ⟨none, 0, rfl, World.ownsRow_nil _ _ _ _, hbF⟩
  · rw [hE, hG, hZ]
    rw [h1] at HV
    clear hE hG hZ h1
    have hor : k < 0 ∨ ¬ k < 0 ∧ k ≥ (l.length : Int) := by
      by_cases q : k < 0
      · exact .inl q
      · refine .inr ⟨q, ?_⟩
        by_cases q2 : k < (l.length : Int)
        · rw [zoneOk_iff.2 ⟨by omega, q2⟩] at h2; cases h2
        · omega
    clear h2
    rcases hor with q | ⟨q, q2⟩
    all_goals
      go_enter Try.func55, Try.ntmps55
      go_wp2_with (fail)
      refine HV.out.mono ?_
      rintro e w1 ⟨rfl, hb1⟩
      have z1 := z0.call hb1
      clear c0 c1
      obtain ⟨c0, c1, _⟩ := (x0.call hb1).two
      obtain ⟨f0, f1, f2, f3⟩ := z1.two
      have zF := z1.set2 (.int .i64 0) (.slice none 0 0)
      have hbF := bl_set (bl_set (bl_call hb0 hb1) (g := w.heap.size + 1) (i := 0) (by omega) (.int .i64 0)) (g := w.heap.size + 1) (i := 1) (by omega) (.slice none 0 0)
      go_wp2_with (fail)
      refine bodyPost_ret (results_cell_tmp rfl _ _ (w.heap.size + 1) 24 _ (0, 0) _ _ rfl rfl zF Try.underlying24 rfl (by kernel_rfl)) rfl ?_
      exact ⟨none, 0, rfl, World.ownsRow_nil _ _ _ _, hbF⟩
  · rw [hE, hG, hZ]
    rw [h1] at HV
    obtain ⟨q1, q2⟩ := zoneOk_iff.1 h2
    obtain ⟨k, rfl⟩ := Int.eq_ofNat_of_zero_le q1
    rw [Int.toNat_natCast]
    have hk : k < l.length := by omega
    have q3 : ¬ (k : Int) < 0 := by omega
    have q4 : ¬ (k : Int) ≥ (l.length : Int) := by omega
    have HALL := Lib.hid (woL_all l k)
    clear hE hG hZ h1 h2 q1
    go_enter Try.func55, Try.ntmps55
    go_wp2_with (fail)
    refine HV.out.mono ?_
    rintro e w1 ⟨rfl, hb1⟩
    have x1 := x0.call hb1
    have z1 := z0.call hb1
    have hb01 := bl_call hb0 hb1
    have hsz1 := hb1.size
    have hx0l := z0.lt
    clear c0 c1
    obtain ⟨c0, c1, _⟩ := x1.two
    have y2 : Bx (w1.alloc (.cells #[.int .i64 Z, .slice none 0 0] 24)) w1.heap.size 24 #[.int .i64 Z, .slice none 0 0] := Bx.new w1 _ _
    have x2 := x1.alloc (.cells #[.int .i64 Z, .slice none 0 0] 24)
    have z2 := z1.alloc (.cells #[.int .i64 Z, .slice none 0 0] 24)
    have hb2 := bl_alloc hb01 (.cells #[.int .i64 Z, .slice none 0 0] 24)
    have hs2 : (w1.alloc (.cells #[.int .i64 Z, .slice none 0 0] 24)).heap.size = w1.heap.size + 1 := by simp
    go_wp2_with (fail)
    rename 0 ≤ (k : Int) ∧ ¬ l.length ≤ k => hcc
    clear c0 c1 q2 q3 q4 hk hcc
    go_loopg [8] l.length (fun gk iv wr => ∃ (j : Nat) (v : Value), Hid (j + gk = l.length) ∧ iv = .int .i64 (j : Int) ∧ Bx wr w.heap.size 24 #[.int .i64 Z, .slice A l.length c] ∧ Bx wr (w.heap.size + 1) 24 #[.int .i64 0, .slice none 0 0] ∧ Bx wr w1.heap.size 24 #[.int .i64 Z, v] ∧ wr.ownsRow (w1.heap.size + 1) 69 2 v (woL l k j).length (cellsP (woL l k j)) ∧ w1.heap.size + 1 ≤ wr.heap.size ∧ Below w.heap.size w wr)
    case atStart => exact ⟨0, .slice none 0 0, by simp [Hid], rfl, x2, z2, y2, by rw [woL_zero]; exact World.ownsRow_nil _ _ _ _, by omega, hb2⟩
    case round =>
      obtain ⟨j, v, HK, rfl, xr, zr, yr, hown, hsz, hb⟩ := hrel
      clear x2 z2 y2 hb2
      rcases gk with _ | gi
      · obtain rfl : j = l.length := HK.out
        rw [HALL.out] at hown
        obtain ⟨A2, c2, rfl⟩ := own_form hown
        obtain ⟨c0, c1, _⟩ := xr.two
        obtain ⟨d0, d1, _⟩ := yr.two
        obtain ⟨f0, f1, f2, f3⟩ := zr.two
        have hzl := zr.lt
        have zF := zr.set2 (.int .i64 Z) (.slice A2 (l.eraseIdx k).length c2)
        have hbF : Below w.heap.size w ((wr.setCell ⟨w.heap.size + 1, 0, none⟩ (.int .i64 Z)).setCell ⟨w.heap.size + 1, 1, none⟩ (.slice A2 (l.eraseIdx k).length c2)) := bl_set (bl_set hb (by omega) _) (by omega) _
        have hoF : ((wr.setCell ⟨w.heap.size + 1, 0, none⟩ (.int .i64 Z)).setCell ⟨w.heap.size + 1, 1, none⟩ (.slice A2 (l.eraseIdx k).length c2)).ownsRow w.heap.size 69 2 (.slice A2 (l.eraseIdx k).length c2) (l.eraseIdx k).length (cellsP (l.eraseIdx k)) := own_base (ownsRow_setCell_below (ownsRow_setCell_below hown (a := ⟨w.heap.size + 1, 0, none⟩) (by simp only []; omega) _) (a := ⟨w.heap.size + 1, 1, none⟩) (by simp only []; omega) _) (by omega)
        clear hown
        generalize l.eraseIdx k = m at *
        go_wp2_with (fail)
        refine bodyPost_ret (results_cell_tmp rfl _ _ (w.heap.size + 1) 24 _ (0, 0) _ _ rfl rfl zF Try.underlying24 rfl (by kernel_rfl)) rfl ?_
        exact ⟨A2, c2, rfl, hoF, hbF⟩
      · have hjl : j < l.length := by have h := HK.out; omega
        have hjl' : (j : Int) < (l.length : Int) := by omega
        obtain ⟨c0, c1, _⟩ := xr.two
        by_cases hjk : j = k
        · subst hjk
          have HS := Lib.hid (woL_skip hjl)
          have hjj : ((j : Int) != (j : Int)) = false := by simp
          go_wp2_with (fail)
          go_roundg gi
          case rel => exact ⟨j + 1, v, by have h := HK.out; show _ = _; omega, by go_num, xr, zr, yr, by rw [HS.out]; exact hown, hsz, hb⟩
          case measure => omega
        · have HS := Lib.hid (woL_add hjl hjk)
          have hjj : ((j : Int) != (k : Int)) = true := by simp; omega
          have hwl := woL_len l k j
          obtain ⟨b, o, rfl, hbl, e0, e1⟩ := (hr.later hb).pair hjl
          obtain ⟨A1, c1', rfl⟩ := own_form hown
          have hw1 : (woL l k (j + 1)).length = (woL l k j).length + 1 := by rw [HS.out, List.length_append, List.length_singleton]
          have hw2 : cellsP (woL l k (j + 1)) = cellsP (woL l k j) ++ cellsP [l.getD j (0, 0)] := by rw [HS.out, cellsP, List.flatMap_append]; rfl
          generalize l.getD j (0, 0) = x at *
          obtain ⟨u0, u1⟩ := x
          simp only [] at e0 e1
          have hba : Below wr.heap.size wr ((wr.alloc (.cells #[.int .i64 u0, .int .i64 u1] 69)).drew) := (bl_alloc (Below.refl _ _) _).drew
          have hnew : Rd ((wr.alloc (.cells #[.int .i64 u0, .int .i64 u1] 69)).drew) (some ⟨wr.heap.size, 0, none⟩) (cellsP [(u0, u1)]) := Bx.rd (cs := cellsP [(u0, u1)]) (Bx.new wr _ _)
          have hown' := own_call hown hba
          have hszA := hba.size
          obtain ⟨A2, c2, W2, hrun, ho2, hg2⟩ := run_append_rows (P := Try.prog) ((wr.alloc (.cells #[.int .i64 u0, .int .i64 u1] 69)).drew) (w1.heap.size + 1) 22 69 i0 _ 2 16 Try.underlying22 hi hz0 hz1 hz2 rfl (by decide) _ _ _ hown' (some ⟨wr.heap.size, 0, none⟩) 1 1 (cellsP [(u0, u1)]) rfl (cellsP_one _) hnew (by unfold maxLen; omega) (by omega) (by omega)
          have hbl : Below (w1.heap.size + 1) wr W2 := Below.trans (hba.mono hsz) (grown_below hown' hg2 (by omega))
          have ho2 : W2.ownsRow (w1.heap.size + 1) 69 2 (.slice A2 ((woL l k j).length + 1) c2) (woL l k (j + 1)).length (cellsP (woL l k (j + 1))) := by rw [hw1, hw2]; exact ho2
          have E1 := Lib.hid hrun
          have xW : Bx W2 w.heap.size 24 #[.int .i64 Z, .slice (some ⟨b, o, none⟩) l.length c] := (hbl.block _ (by omega)).trans xr
          have zW : Bx W2 (w.heap.size + 1) 24 #[.int .i64 0, .slice none 0 0] := (hbl.block _ (by omega)).trans zr
          have yW : Bx W2 w1.heap.size 24 #[.int .i64 Z, .slice A1 (woL l k j).length c1'] := (hbl.block _ (by omega)).trans yr
          obtain ⟨d0, d1, _⟩ := yr.two
          obtain ⟨g0, g1, _⟩ := (yr.call hba).two
          obtain ⟨k0, k1, k2, k3⟩ := yW.two
          have hyl := yr.lt
          have hrel2 := Lib.hid (And.intro (xW.far (g' := w1.heap.size) (i := 1) (by omega) (.slice A2 ((woL l k j).length + 1) c2)) (And.intro (zW.far (g' := w1.heap.size) (i := 1) (by omega) (.slice A2 ((woL l k j).length + 1) c2)) (And.intro (yW.set 1 (.slice A2 ((woL l k j).length + 1) c2)) (And.intro (ownsRow_setCell_below ho2 (a := ⟨w1.heap.size, 1, none⟩) (by simp) (.slice A2 ((woL l k j).length + 1) c2)) (And.intro (Nat.le_trans hsz (Nat.le_trans hbl.size (by simp) : wr.heap.size ≤ (W2.setCell ⟨w1.heap.size, 1, none⟩ (.slice A2 ((woL l k j).length + 1) c2)).heap.size)) (bl_set (hb.trans (hbl.mono (by omega))) (g := w1.heap.size) (i := 1) (by omega) (.slice A2 ((woL l k j).length + 1) c2)))))))
          clear hrun hown hown' ho2 hg2 hba hnew hbl xW zW yW hw1 hw2 HS xr zr yr hb
          generalize (woL l k j).length = n at *
          go_wp2_with (fail)
          go_region_law (refine step_append_run rfl (.tmp 39) (.tmp 45) 22 rfl (.slice A1 n c1') (.slice (some ⟨wr.heap.size, 0, none⟩) 1 1) (.slice A2 (n + 1) c2) W2 (by simp [Act.eval]) (by simp [Act.eval]) E1.out ?_)
          all_goals
            go_wp2_with (fail)
            go_roundg gi
            case rel => exact ⟨j + 1, .slice A2 (n + 1) c2, by have h := HK.out; show _ = _; omega, by go_num, hrel2.out⟩
            case measure => omega
end Go.Proofs.Ytjgpfnnokdcgoaa
