/- Lines, rings and junctions: the walks of the program, the orders of the specification, why they agree, and the walk of the law. -/
import Derived.Test.YtjgpfnnokdcgoaaApp
import Derived.Test.YtjgpfnnokdcgoaaLine
import Derived.Test.YtjgpfnnokdcgoaaRnear
import Derived.Test.YtjgpfnnokdcgoaaNear3
import Derived.Test.YtjgpfnnokdcgoaaRval
import Derived.Test.YtjgpfnnokdcgoaaIdx
import Derived.Test.YtjgpfnnokdcgoaaNear2
import Derived.Test.YtjgpfnnokdcgoaaLow
import Derived.WalkSpells
import Derived.Test.YtjgpfnnokdcgoaaOrd
import Derived.Test.YtjgpfnnokdcgoaaChain
import Derived.Test.YtjgpfnnokdcgoaaKnownZ
import Derived.Test.YtjgpfnnokdcgoaaMovesW
/- The numbers from 0 on. -/
namespace Go.Proofs.Ytjgpfnnokdcgoaa
open Go.RowKit Go.Maps

def numbL (n : Nat) : List Int := (List.range n).map fun z : Nat => (z : Int)
theorem numbL_succ (n : Nat) : numbL (n + 1) = numbL n ++ [(n : Int)] := by rw [numbL, List.range_succ, List.map_append]; rfl
theorem numbL_len (n : Nat) : (numbL n).length = n := by simp [numbL]

set_option maxRecDepth 100000 in
set_option maxHeartbeats 2000000 in
theorem numbers_c (n : Nat) (w : World) (hn : n ≤ 1000) :
    Calls Try.prog 80 #[.int .i64 n] w fun e w' => ∃ A' c', e = .returned (.slice A' n c') ∧ w'.ownsRow w.heap.size 3 1 (.slice A' n c') n (ints (numbL n)) ∧ Below w.heap.size w w' := by
  obtain ⟨i0, hi, hz0, hz1, hz2⟩ := info_parts int_info
  go_enter Try.func80, Try.ntmps80
  go_wp2_with (fail)
  go_loopg [3, 4] n (fun gk v iv wr => ∃ k : Nat, Hid (k + gk = n) ∧ iv = .int .i64 (k : Int) ∧ wr.ownsRow w.heap.size 3 1 v k (ints (numbL k)) ∧ Below w.heap.size w wr)
  case atStart => exact ⟨0, by simp [Hid], rfl, World.ownsRow_nil _ _ _ _, Below.refl _ _⟩
  case round =>
    obtain ⟨k, HK, rfl, ho, hb⟩ := hrel
    rcases gk with _ | gi
    · obtain rfl : k = n := HK.out
      obtain ⟨A', c', rfl⟩ := own_form ho
      go_wp2_with (fail)
      go_ret
      exact ⟨A', c', rfl, ho, hb⟩
    · have hkn : k < n := by have h := HK.out; omega
      have hkn' : (k : Int) < (n : Int) := by omega
      have hbA : Below wr.heap.size wr (wr.alloc (.cells #[.int .i64 k] 3)) := bl_alloc (Below.refl _ _) _
      have hnew : Rd (wr.alloc (.cells #[.int .i64 k] 3)) (some ⟨wr.heap.size, 0, none⟩) (ints [(k : Int)]) := Bx.rd (cs := ints [(k : Int)]) (Bx.new wr _ _)
      have hoA := own_call ho hbA
      have hszA := hbA.size
      have hszb := hb.size
      go_wp2_with (at_builtin; refine wpList_append_any rfl _ _ 25 rfl w.heap.size 3 i0 _ 8 Try.underlying25 hi hz0 hz1 hz2 rfl _ k (ints (numbL k)) rfl hoA (some ⟨wr.heap.size, 0, none⟩) [(k : Int)] 1 rfl hnew (by unfold maxLen; simp only [List.length_singleton]; omega) (by simp only [List.length_singleton]; omega) (by omega) ?_)
      intro A9 c9 w9 ho9 hg9
      have hb9 : Below w.heap.size w w9 := (bl_call hb hbA).trans (grown_below hoA hg9 (by omega))
      have ho9' : w9.ownsRow w.heap.size 3 1 (.slice A9 (k + 1) c9) (k + 1) (ints (numbL (k + 1))) := by
        have e : ints (numbL (k + 1)) = ints (numbL k) ++ ints [(k : Int)] := by rw [numbL_succ]; simp [ints]
        rw [e]; exact ho9
      clear ho9 hg9 hoA ho hnew hbA
      go_wp2_with (fail)
      go_roundg gi
      case rel => exact ⟨k + 1, by have h := HK.out; show _ = _; omega, by go_num, ho9', hb9⟩
      case measure => omega
end Go.Proofs.Ytjgpfnnokdcgoaa

/- The junctions of a trap. -/
namespace Go.Proofs.Ytjgpfnnokdcgoaa
open Go.RowKit Go.Maps

/-- The zones below k with 3 links or more. -/
def juncTo (l : List (Int × Int)) (Z : Nat) (k : Nat) : List Int := upTo (fun z => decide (3 ≤ (nearL l z Z).length)) k
def juncG (Z : Int) (l : List (Int × Int)) : List Int := if trapE Z l = 0 then juncTo l Z.toNat Z.toNat else []
theorem near_out {l : List (Int × Int)} {Z : Nat} (ht : trapE Z l = 0) {z : Int} (hz : (Z : Int) ≤ z) : nearL l z Z = [] := by
  obtain ⟨_, hl, _⟩ := trapE_zero ht
  rw [List.eq_nil_iff_forall_not_mem]
  intro x hx
  obtain ⟨_, hx1, hx2⟩ := (upTo_mem _ _ _).1 hx
  rw [linkB, decide_eq_true_eq] at hx2
  have := hl _ hx2
  rw [keyL] at this
  simp only [] at this
  omega
theorem junc_out {l : List (Int × Int)} {Z : Nat} (ht : trapE Z l = 0) : ∀ k, juncTo l Z (Z + k) = juncTo l Z Z
  | 0 => rfl
  | k + 1 => by
    rw [← Nat.add_assoc, juncTo, upTo, if_neg, ← juncTo, junc_out ht k]
    rw [near_out ht (by omega)]; simp
theorem juncTo_succ (l : List (Int × Int)) (Z k : Nat) : juncTo l Z (k + 1) = if 3 ≤ (nearL l k Z).length then juncTo l Z k ++ [(k : Int)] else juncTo l Z k := by
  rw [juncTo, upTo]
  by_cases h : 3 ≤ (nearL l k Z).length
  · simp [h, juncTo]
  · simp [h, juncTo]

set_option maxRecDepth 100000 in
set_option maxHeartbeats 4000000 in
theorem Junctions_c (Z : Int) (A : Option Addr) (l : List (Int × Int)) (c : Nat) (w : World) (hlen : l.length ≤ 1000) (hr : Rd w A (cellsP l)) :
    Calls Try.prog 49 #[trapV Z A l.length c] w (OutI (juncG Z l) (trapE Z l) w) := by
  obtain ⟨i0, hi, hz0, hz1, hz2⟩ := info_parts int_info
  have x0 := Bx.new w 24 #[.int .i64 Z, .slice A l.length c]
  have hb0 := bl_alloc (Below.refl w.heap.size w) (.cells #[.int .i64 Z, .slice A l.length c] 24)
  generalize hw0 : w.alloc (.cells #[.int .i64 Z, .slice A l.length c] 24) = w0 at *
  have HV := Lib.hid (validate_c Z A l c w0 hlen (hr.later hb0))
  obtain ⟨c0, c1, _⟩ := x0.two
  by_cases ht : trapE Z l = 0
  · have hG : juncG Z l = juncTo l Z.toNat Z.toNat := by rw [juncG, if_pos ht]
    obtain ⟨n, rfl, _, h6⟩ := trap_nat ht
    rw [hG, Int.toNat_natCast, ht]
    have hl36 := trap_len ht
    have HN := fun w1 h => Lib.hid (netOf_c n A l c w1 ht (by omega) h)
    have HJ := Lib.hid (junc_out ht (6 - n))
    have HS := fun k => Lib.hid (juncTo_succ l n k)
    have HJL := fun k => upTo_len (fun z => decide (3 ≤ (nearL l z n).length)) k
    change ∀ k, (juncTo l n k).length ≤ k at HJL
    rw [ht] at HV
    clear hG ht
    go_enter Try.func49, Try.ntmps49
    go_wp2_with (fail)
    refine HV.out.mono ?_
    rintro e w1 ⟨rfl, hb1⟩
    have hb01 := bl_call hb0 hb1
    clear c0 c1
    obtain ⟨c0, c1, _⟩ := (x0.call hb1).two
    go_wp2_with (fail)
    refine (HN _ (hr.later hb01)).out.mono ?_
    rintro e w2 ⟨h0, h1, h2, h3, h4, h5, rfl, htb, hb2⟩
    have hb02 := bl_call hb01 hb2
    have hfld := fun W => field_net (.int .i64 n) h0 h1 h2 h3 h4 h5 W
    clear c0 c1
    have HROW : ∀ k : Nat, k < 6 → Hid (∃ A' c', [h0, h1, h2, h3, h4, h5][k]? = some (.slice A' (nearL l k n).length c')) := fun k hk => by
      obtain ⟨A', c', h, _⟩ := htb.row (k := k) (by simpa using hk)
      simp only [List.getD_eq_getElem?_getD, List.getElem?_map, List.getElem?_range hk, Option.map_some, Option.getD_some] at h
      exact ⟨A', c', h⟩
    clear htb
    go_wp2_with (fail)
    go_loopg [5, 16] 6 (fun gk v iv wr => ∃ k : Nat, Hid (k + gk = 6) ∧ iv = .int .i64 (k : Int) ∧ wr.ownsRow w2.heap.size 3 1 v (juncTo l n k).length (ints (juncTo l n k)) ∧ Below w2.heap.size w2 wr)
    case atStart => exact ⟨0, by simp [Hid], rfl, World.ownsRow_nil _ _ _ _, Below.refl _ _⟩
    case round =>
      obtain ⟨k, HK, rfl, ho, hb⟩ := hrel
      clear hfld
      rcases gk with _ | gi
      · obtain rfl : k = 6 := HK.out
        have e6 : juncTo l n 6 = juncTo l n n := by have h := HJ.out; rwa [show n + (6 - n) = 6 by omega] at h
        rw [e6] at ho
        obtain ⟨A', c', rfl⟩ := own_form ho
        clear e6 HROW HS HJL HJ
        go_wp2_with (fail)
        go_ret2
        exact ⟨A', c', rfl, own_base ho hb02.size, bl_call hb02 hb⟩
      · have hk6 : k < 6 := by have h := HK.out; omega
        have hk6' : (k : Int) < 6 := by omega
        obtain ⟨Ak, ck, hrow⟩ := (HROW k hk6).out
        have hidx := fun W => idx_net h0 h1 h2 h3 h4 h5 k hk6 _ hrow W
        have HSk := HS k
        have hJk := HJL k
        generalize (nearL l k n).length = m at *
        generalize hj : juncTo l n k = J at *
        clear hrow
        by_cases hm : 3 ≤ m
        · have HX : Hid (juncTo l n (k + 1) = J ++ [(k : Int)]) := by show _ = _; rw [HSk.out, if_pos hm]
          have hm' : (3 : Int) ≤ (m : Int) := by omega
          have hbA : Below wr.heap.size wr (wr.alloc (.cells #[.int .i64 k] 3)) := bl_alloc (Below.refl _ _) _
          have hnew : Rd (wr.alloc (.cells #[.int .i64 k] 3)) (some ⟨wr.heap.size, 0, none⟩) (ints [(k : Int)]) := Bx.rd (cs := ints [(k : Int)]) (Bx.new wr _ _)
          have hoA := own_call ho hbA
          have hszA := hbA.size
          have hszb := hb.size
          clear HSk hj
          go_wp2_with (at_builtin; refine wpList_append_any rfl _ _ 25 rfl w2.heap.size 3 i0 _ 8 Try.underlying25 hi hz0 hz1 hz2 rfl _ J.length (ints J) rfl hoA (some ⟨wr.heap.size, 0, none⟩) [(k : Int)] 1 rfl hnew (by unfold maxLen; simp only [List.length_singleton]; omega) (by simp only [List.length_singleton]; omega) (by omega) ?_)
          intro A9 c9 w9 ho9 hg9
          have hb9 : Below w2.heap.size w2 w9 := (bl_call hb hbA).trans (grown_below hoA hg9 (by omega))
          have ho9' : w9.ownsRow w2.heap.size 3 1 (.slice A9 (J.length + 1) c9) (juncTo l n (k + 1)).length (ints (juncTo l n (k + 1))) := by
            rw [HX.out, List.length_append, List.length_singleton]
            have e : ints (J ++ [(k : Int)]) = ints J ++ ints [(k : Int)] := by simp [ints]
            rw [e]; exact ho9
          clear ho9 hg9 hoA ho hnew hbA
          go_wp2_with (fail)
          go_roundg gi
          case rel => exact ⟨k + 1, by have h := HK.out; show _ = _; omega, by go_num, ho9', hb9⟩
          case measure => omega
        · have HX : Hid (juncTo l n (k + 1) = J) := by show _ = _; rw [HSk.out, if_neg hm]
          have hm' : ¬ (3 : Int) ≤ (m : Int) := by omega
          clear HSk hj
          go_wp2_with (fail)
          go_roundg gi
          case rel => exact ⟨k + 1, by have h := HK.out; show _ = _; omega, by go_num, by rw [HX.out]; exact ho, hb⟩
          case measure => omega
  · have hG : juncG Z l = [] := by rw [juncG, if_neg ht]
    rw [hG]
    clear hG
    generalize trapE Z l = te at *
    go_enter Try.func49, Try.ntmps49
    go_wp2_with (fail)
    refine HV.out.mono ?_
    rintro e w1 ⟨rfl, hb1⟩
    go_wp2_with (fail)
    go_ret2
    exact ⟨none, 0, rfl, World.ownsRow_nil _ _ _ _, bl_call hb0 hb1⟩

set_option maxRecDepth 100000 in
set_option maxHeartbeats 4000000 in
theorem rJunctions_c (Z : Int) (A : Option Addr) (l : List (Int × Int)) (c : Nat) (w : World) (hlen : l.length ≤ 1000) (hr : Rd w A (cellsP l)) :
    Calls Try.prog 50 #[trapV Z A l.length c] w (OutI (juncG Z l) (trapE Z l) w) := by
  obtain ⟨i0, hi, hz0, hz1, hz2⟩ := info_parts int_info
  have x0 := Bx.new w 24 #[.int .i64 Z, .slice A l.length c]
  have hb0 := bl_alloc (Below.refl w.heap.size w) (.cells #[.int .i64 Z, .slice A l.length c] 24)
  generalize hw0 : w.alloc (.cells #[.int .i64 Z, .slice A l.length c] 24) = w0 at *
  have HV := Lib.hid (rvalidate_c Z A l c w0 hlen (hr.later hb0))
  obtain ⟨c0, c1, _⟩ := x0.two
  by_cases ht : trapE Z l = 0
  · have hG : juncG Z l = juncTo l Z.toNat Z.toNat := by rw [juncG, if_pos ht]
    obtain ⟨n, rfl, _, h6⟩ := trap_nat ht
    rw [hG, Int.toNat_natCast, ht]
    have HN := fun z w1 h => Lib.hid (rnear_c n A l c z w1 hlen (by omega) h)
    have HS := fun k => Lib.hid (juncTo_succ l n k)
    have HJL := fun k => upTo_len (fun z => decide (3 ≤ (nearL l z n).length)) k
    change ∀ k, (juncTo l n k).length ≤ k at HJL
    rw [ht] at HV
    clear hG ht
    go_enter Try.func50, Try.ntmps50
    go_wp2_with (fail)
    refine HV.out.mono ?_
    rintro e w1 ⟨rfl, hb1⟩
    have hb01 := bl_call hb0 hb1
    have x1 := x0.call hb1
    clear c0 c1
    go_wp2_with (fail)
    go_loopg [5, 6] n (fun gk v iv wr => ∃ k : Nat, Hid (k + gk = n) ∧ iv = .int .i64 (k : Int) ∧ wr.ownsRow w1.heap.size 3 1 v (juncTo l n k).length (ints (juncTo l n k)) ∧ Below w1.heap.size w1 wr)
    case atStart => exact ⟨0, by simp [Hid], rfl, World.ownsRow_nil _ _ _ _, Below.refl _ _⟩
    case round =>
      obtain ⟨k, HK, rfl, ho, hb⟩ := hrel
      have xr := x1.call hb
      obtain ⟨c0, c1, _⟩ := xr.two
      have hb0r := bl_call hb01 hb
      rcases gk with _ | gi
      · obtain rfl : k = n := HK.out
        obtain ⟨A', c', rfl⟩ := own_form ho
        go_wp2_with (fail)
        go_ret2
        exact ⟨A', c', rfl, own_base ho hb01.size, hb0r⟩
      · have hkn : k < n := by have h := HK.out; omega
        have hkn' : (k : Int) < (n : Int) := by omega
        have HSk := HS k
        have hJk := HJL k
        have HNk := HN k
        generalize nearL l k n = L at *
        generalize hj : juncTo l n k = J at *
        by_cases hm : 3 ≤ L.length
        · have HX : Hid (juncTo l n (k + 1) = J ++ [(k : Int)]) := by show _ = _; rw [HSk.out, if_pos hm]
          have hm' : (3 : Int) ≤ (L.length : Int) := by omega
          clear HSk hj
          go_wp2_with (fail)
          refine (HNk _ (hr.later hb0r)).out.mono ?_
          rintro e w8 ⟨A8, c8, rfl, _, hb8⟩
          have hbb8 := bl_call hb hb8
          have ho8 := own_call ho hb8
          have hbA : Below w8.heap.size w8 (w8.alloc (.cells #[.int .i64 k] 3)) := bl_alloc (Below.refl _ _) _
          have hnew : Rd (w8.alloc (.cells #[.int .i64 k] 3)) (some ⟨w8.heap.size, 0, none⟩) (ints [(k : Int)]) := Bx.rd (cs := ints [(k : Int)]) (Bx.new w8 _ _)
          have hoA := own_call ho8 hbA
          have hszA := hbA.size
          have hszb := hbb8.size
          clear c0 c1
          go_wp2_with (at_builtin; refine wpList_append_any rfl _ _ 25 rfl w1.heap.size 3 i0 _ 8 Try.underlying25 hi hz0 hz1 hz2 rfl _ J.length (ints J) rfl hoA (some ⟨w8.heap.size, 0, none⟩) [(k : Int)] 1 rfl hnew (by unfold maxLen; simp only [List.length_singleton]; omega) (by simp only [List.length_singleton]; omega) (by omega) ?_)
          intro A9 c9 w9 ho9 hg9
          have hb9 : Below w1.heap.size w1 w9 := (bl_call hbb8 hbA).trans (grown_below hoA hg9 (by omega))
          have ho9' : w9.ownsRow w1.heap.size 3 1 (.slice A9 (J.length + 1) c9) (juncTo l n (k + 1)).length (ints (juncTo l n (k + 1))) := by
            rw [HX.out, List.length_append, List.length_singleton]
            have e : ints (J ++ [(k : Int)]) = ints J ++ ints [(k : Int)] := by simp [ints]
            rw [e]; exact ho9
          clear ho9 hg9 hoA ho ho8 hnew hbA
          go_wp2_with (fail)
          go_roundg gi
          case rel => exact ⟨k + 1, by have h := HK.out; show _ = _; omega, by go_num, ho9', hb9⟩
          case measure => omega
        · have HX : Hid (juncTo l n (k + 1) = J) := by show _ = _; rw [HSk.out, if_neg hm]
          have hm' : ¬ (3 : Int) ≤ (L.length : Int) := by omega
          clear HSk hj
          go_wp2_with (fail)
          refine (HNk _ (hr.later hb0r)).out.mono ?_
          rintro e w8 ⟨A8, c8, rfl, _, hb8⟩
          have hbb8 := bl_call hb hb8
          have ho8 := own_call ho hb8
          go_wp2_with (fail)
          go_roundg gi
          case rel => exact ⟨k + 1, by have h := HK.out; show _ = _; omega, by go_num, by rw [HX.out]; exact ho8, hbb8⟩
          case measure => omega
  · have hG : juncG Z l = [] := by rw [juncG, if_neg ht]
    rw [hG]
    clear hG
    generalize trapE Z l = te at *
    go_enter Try.func50, Try.ntmps50
    go_wp2_with (fail)
    refine HV.out.mono ?_
    rintro e w1 ⟨rfl, hb1⟩
    go_wp2_with (fail)
    go_ret2
    exact ⟨none, 0, rfl, World.ownsRow_nil _ _ _ _, bl_call hb0 hb1⟩
end Go.Proofs.Ytjgpfnnokdcgoaa

/- A walk through the zones. -/
namespace Go.Proofs.Ytjgpfnnokdcgoaa
open Go.RowKit Go.Maps

/-- A walk that goes on from a zone: to the first near one that is new. -/
def walkTo (l : List (Int × Int)) (n : Nat) : Nat → List Int → Int → List Int
  | 0, o, z => o ++ [z]
  | k + 1, o, z => match (nearL l z n).find? (fun y => !(o ++ [z]).contains y) with | some y => walkTo l n k (o ++ [z]) y | none => o ++ [z]
def walkL (l : List (Int × Int)) (n : Nat) (z : Int) : List Int := walkTo l n 5 [] z
/-- The first place of a number that is not there. -/
def idxN (L o : List Int) : Int := match L.findIdx? (fun y => !o.contains y) with | some i => (i : Int) | none => -1

set_option maxRecDepth 100000 in
theorem isNew_c (bo : Nat) (A : Option Addr) (o : List Int) (c : Nat) (y : Int) (w : World) (hol : o.length ≤ 1000) (hx : w.cell? ⟨bo, 0, none⟩ = some (.slice A o.length c)) (hr : Rd w A (ints o)) :
    Calls Try.prog 104 #[.int .i64 y, .pointer (some ⟨bo, 0, none⟩)] w fun e w' => e = .returned (.bool (!o.contains y)) ∧ Below w.heap.size w w' := by
  have HC := fun w1 h => Lib.hid (contains_c A o c y w1 hol h)
  generalize o.contains y = b at *
  go_enter Try.func104, Try.ntmps104
  go_wp2_with (fail)
  refine (HC _ hr).out.mono ?_
  rintro e w1 ⟨rfl, hb1⟩
  go_wp2_with (fail)
  go_ret
  exact ⟨rfl, hb1⟩

set_option maxRecDepth 100000 in
set_option maxHeartbeats 2000000 in
theorem indexN_c (bo : Nat) (A B : Option Addr) (o L : List Int) (c d : Nat) (w : World) (hol : o.length ≤ 1000) (hLl : L.length ≤ 1000) (hb : bo < w.heap.size) (hx : w.cell? ⟨bo, 0, none⟩ = some (.slice A o.length c)) (hr : Rd w A (ints o)) (hs : Rd w B (ints L)) :
    Calls Try.prog 105 #[.slice B L.length d, .func (.func 104) #[] #[.pointer (some ⟨bo, 0, none⟩)]] w fun e w' => e = .returned (.int .i64 (idxN L o)) ∧ Below w.heap.size w w' := by
  have HC := fun y w1 h1 h2 => Lib.hid (isNew_c bo A o c y w1 hol h1 h2)
  have HX : ∀ w1, Below w.heap.size w w1 → Hid (w1.cell? ⟨bo, 0, none⟩ = some (.slice A o.length c)) := fun w1 h => by
    show _ = _
    rw [← hx]; exact World.cell?_of_block (h.block bo hb)
  go_enter Try.func105, Try.ntmps105
  go_wp2_with (fail)
  go_loopg [8] L.length (fun gk iv wr => ∃ i : Nat, Hid (i + gk = L.length) ∧ iv = .int .i64 (i : Int) ∧ Hid (∀ j, j < i → (!o.contains (L.getD j 0)) = false) ∧ Below w.heap.size w wr)
  case atStart => exact ⟨0, by simp [Hid], rfl, fun j h => by omega, Below.refl _ _⟩
  case round =>
    obtain ⟨i, HI, rfl, HN, hbl⟩ := hrel
    rcases gk with _ | gi
    · obtain rfl : i = L.length := HI.out
      have HE : Hid (idxN L o = -1) := by
        show _ = _
        rw [idxN, List.findIdx?_eq_none_iff.2 (fun x hx => by
          obtain ⟨j, hj, rfl⟩ := List.mem_iff_getElem.1 hx
          have := HN.out j hj
          simpa [hj] using this)]
      go_wp2_with (fail)
      go_ret
      exact ⟨by rw [HE.out]; rfl, hbl⟩
    · have hil : i < L.length := by have h := HI.out; omega
      have hil' : (i : Int) < (L.length : Int) := by omega
      obtain ⟨b, of, rfl, _, hc⟩ := (hs.later hbl).at_ (k := i) (by simpa using hil)
      have p0 := hc i _ (ints_get hil)
      clear hc
      have HCy := HC (L.getD i 0) wr (HX wr hbl).out (hr.later hbl)
      cases hq : o.contains (L.getD i 0) with
      | true =>
        have HN2 : Hid (∀ j, j < i + 1 → (!o.contains (L.getD j 0)) = false) := fun j hj => by
          by_cases e : j = i
          · subst e; rw [hq]; rfl
          · exact HN.out j (by omega)
        rw [hq] at HCy
        clear hq
        generalize L.getD i 0 = y at *
        go_wp2_with (fail)
        refine HCy.out.mono ?_
        rintro e w1 ⟨rfl, hb1⟩
        go_wp2_with (fail)
        go_roundg gi
        case rel => exact ⟨i + 1, by have h := HI.out; show _ = _; omega, by go_num, HN2, bl_call hbl hb1⟩
        case measure => omega
      | false =>
        have HE : Hid (idxN L o = (i : Int)) := by
          show _ = _
          have : L.findIdx? (fun y => !o.contains y) = some i := by
            rw [List.findIdx?_eq_some_iff_getElem]
            refine ⟨hil, ?_, fun j hj => ?_⟩
            · have : L[i] = L.getD i 0 := by simp [hil]
              rw [this, hq]; rfl
            · have h2 := HN.out j hj
              have : L[j] = L.getD j 0 := by simp [show j < L.length by omega]
              rw [this, h2]; simp
          rw [idxN, this]
        rw [hq] at HCy
        clear hq
        generalize L.getD i 0 = y at *
        go_wp2_with (fail)
        refine HCy.out.mono ?_
        rintro e w1 ⟨rfl, hb1⟩
        go_wp2_with (fail)
        go_ret
        exact ⟨by rw [HE.out]; rfl, bl_call hbl hb1⟩

theorem idxN_cases (L o : List Int) : (idxN L o = -1 ∧ L.find? (fun y => !o.contains y) = none) ∨ ∃ i : Nat, i < L.length ∧ idxN L o = (i : Int) ∧ L.find? (fun y => !o.contains y) = some (L.getD i 0) ∧ o.contains (L.getD i 0) = false := by
  rw [idxN]
  cases h : L.findIdx? (fun y => !o.contains y) with
  | none =>
    left
    refine ⟨rfl, ?_⟩
    rw [List.find?_eq_none]
    rw [List.findIdx?_eq_none_iff] at h
    intro x hx
    rw [h x hx]; simp
  | some i =>
    right
    rw [List.findIdx?_eq_some_iff_getElem] at h
    obtain ⟨hi, h1, h2⟩ := h
    have e : L.getD i 0 = L[i] := by simp [hi]
    refine ⟨i, hi, rfl, ?_, by rw [e]; simpa using h1⟩
    rw [e, List.find?_eq_some_iff_getElem]
    exact ⟨h1, i, hi, rfl, fun j hj => by have := h2 j hj; simpa using this⟩
/-- What holds of a walk under way: its zones are right, each once, and the next one is none of them. -/
structure WalkOk (n : Nat) (o : List Int) (z : Nat) : Prop where
  inn : ∀ x ∈ o, 0 ≤ x ∧ x < (n : Int)
  nod : o.Nodup
  lt : z < n
  new : (z : Int) ∉ o
theorem WalkOk.push {n : Nat} {o : List Int} {z : Nat} (h : WalkOk n o z) : (∀ x ∈ o ++ [(z : Int)], 0 ≤ x ∧ x < (n : Int)) ∧ (o ++ [(z : Int)]).Nodup := by
  refine ⟨fun x hx => ?_, ?_⟩
  · rcases List.mem_append.1 hx with hx | hx
    · exact h.inn x hx
    · rw [List.mem_singleton.1 hx]; have := h.lt; omega
  · rw [List.nodup_append]
    refine ⟨h.nod, by simp, fun x hx y hy => ?_⟩
    rw [List.mem_singleton.1 hy]
    rintro rfl
    exact h.new hx
theorem WalkOk.next {n : Nat} {o : List Int} {z y : Nat} (h : WalkOk n o z) (hy : y < n) (hn : (y : Int) ∉ o ++ [(z : Int)]) : WalkOk n (o ++ [(z : Int)]) y := ⟨h.push.1, h.push.2, hy, hn⟩
theorem WalkOk.few {n : Nat} {o : List Int} {z : Nat} (h : WalkOk n o z) : o.length < n := by
  have := nodup_le h.push.2 h.push.1
  rw [List.length_append, List.length_singleton] at this
  omega
theorem near_lt {l : List (Int × Int)} {n i : Nat} {z : Int} (hi : i < (nearL l z n).length) : ∃ y : Nat, (nearL l z n).getD i 0 = (y : Int) ∧ y < n := by
  have hm : (nearL l z n).getD i 0 ∈ nearL l z n := by simp [hi]
  obtain ⟨h0, h1, _⟩ := (upTo_mem _ _ _).1 hm
  exact ⟨((nearL l z n).getD i 0).toNat, by omega, by omega⟩

set_option maxRecDepth 100000 in
set_option maxHeartbeats 4000000 in
theorem walk_c (n : Nat) (l : List (Int × Int)) (h0 h1 h2 h3 h4 h5 : Value) (z : Nat) (w : World) (hz : z < n) (h6 : n ≤ 6) (hn : NetR w n l [h0, h1, h2, h3, h4, h5]) :
    Calls Try.prog 96 #[.agg #[.int .i64 n, h0, h1, h2, h3, h4, h5], .int .i64 z] w fun e w' => ∃ A' c', e = .returned (.slice A' (walkL l n z).length c') ∧ w'.ownsRow w.heap.size 3 1 (.slice A' (walkL l n z).length c') (walkL l n z).length (ints (walkL l n z)) ∧ Below w.heap.size w w' := by
  obtain ⟨i0, hi, hz0, hz1, hz2⟩ := info_parts int_info
  have x0 : Bx ((w.alloc (.cells #[.int .i64 n, h0, h1, h2, h3, h4, h5] 78)).alloc (.cells #[.slice none 0 0] 25)) w.heap.size 78 #[.int .i64 n, h0, h1, h2, h3, h4, h5] := (Bx.newAt rfl).alloc _
  have y0 : Bx ((w.alloc (.cells #[.int .i64 n, h0, h1, h2, h3, h4, h5] 78)).alloc (.cells #[.slice none 0 0] 25)) (w.heap.size + 1) 25 #[.slice none 0 0] := Bx.newAt (by simp)
  have hb0 := bl_alloc (bl_alloc (Below.refl w.heap.size w) (.cells #[.int .i64 n, h0, h1, h2, h3, h4, h5] 78)) (.cells #[.slice none 0 0] 25)
  have hs0 : ((w.alloc (.cells #[.int .i64 n, h0, h1, h2, h3, h4, h5] 78)).alloc (.cells #[.slice none 0 0] 25)).heap.size = w.heap.size + 2 := by simp
  generalize hw0 : (w.alloc (.cells #[.int .i64 n, h0, h1, h2, h3, h4, h5] 78)).alloc (.cells #[.slice none 0 0] 25) = w0 at *
  go_enter Try.func96, Try.ntmps96
  go_wp2_with (fail)
  go_loopg [1] 5 (fun gk zv wr => ∃ (o : List Int) (y : Nat) (v : Value), zv = .int .i64 (y : Int) ∧ Hid (o.length + gk = 5) ∧ Hid (walkTo l n gk o y = walkL l n z) ∧ Hid (WalkOk n o y) ∧ Bx wr w.heap.size 78 #[.int .i64 n, h0, h1, h2, h3, h4, h5] ∧ Bx wr (w.heap.size + 1) 25 #[v] ∧ wr.ownsRow (w.heap.size + 2) 3 1 v o.length (ints o) ∧ w.heap.size + 2 ≤ wr.heap.size ∧ Below w.heap.size w wr)
  case atStart => exact ⟨[], z, .slice none 0 0, rfl, rfl, rfl, ⟨by simp, by simp, hz, by simp⟩, x0, y0, World.ownsRow_nil _ _ _ _, by omega, hb0⟩
  case round =>
    obtain ⟨o, y, v, rfl, HL, HW, HO, xr, yr, ho, hsz, hb⟩ := hrel
    clear x0 y0
    have hol : o.length ≤ 5 := by have h := HL.out; omega
    have hy6 : y < 6 := by have := HO.out.lt; omega
    obtain ⟨d0, d1⟩ := yr.one
    have hbA : Below wr.heap.size wr (wr.alloc (.cells #[.int .i64 y] 3)) := bl_alloc (Below.refl _ _) _
    have hnew : Rd (wr.alloc (.cells #[.int .i64 y] 3)) (some ⟨wr.heap.size, 0, none⟩) (ints [(y : Int)]) := Bx.rd (cs := ints [(y : Int)]) (Bx.new wr _ _)
    have hoA := own_call ho hbA
    have hszA := hbA.size
    go_wp2_with (at_builtin; refine wpList_append_any rfl _ _ 25 rfl (w.heap.size + 2) 3 i0 _ 8 Try.underlying25 hi hz0 hz1 hz2 rfl _ o.length (ints o) rfl hoA (some ⟨wr.heap.size, 0, none⟩) [(y : Int)] 1 rfl hnew (by unfold maxLen; simp only [List.length_singleton]; omega) (by simp only [List.length_singleton]; omega) (by omega) ?_)
    intro A9 c9 w9 ho9 hg9
    have hbl : Below (w.heap.size + 2) wr w9 := Below.trans (hbA.mono hsz) (grown_below hoA hg9 (by omega))
    have x9 : Bx w9 w.heap.size 78 #[.int .i64 n, h0, h1, h2, h3, h4, h5] := (hbl.block _ (by omega)).trans xr
    have y9 : Bx w9 (w.heap.size + 1) 25 #[v] := (hbl.block _ (by omega)).trans yr
    have hs9 := hbl.size
    have hb9 : Below w.heap.size w w9 := hb.trans (hbl.mono (by omega))
    have ho9' : w9.ownsRow (w.heap.size + 2) 3 1 (.slice A9 (o.length + 1) c9) (o.length + 1) (ints (o ++ [(y : Int)])) := by
      have e : ints (o ++ [(y : Int)]) = ints o ++ ints [(y : Int)] := by simp [ints]
      rw [e]; exact ho9
    clear ho9 hg9 hoA ho hnew hbA d0 d1 xr yr
    obtain ⟨d0, d1⟩ := y9.one
    have xs := x9.far (g' := w.heap.size + 1) (i := 0) (by omega) (.slice A9 (o.length + 1) c9)
    have ys := y9.set1 (.slice A9 (o.length + 1) c9)
    have hbs : Below w.heap.size w (w9.setCell ⟨w.heap.size + 1, 0, none⟩ (.slice A9 (o.length + 1) c9)) := bl_set hb9 (by omega) _
    have hos := ownsRow_setCell_below ho9' (a := ⟨w.heap.size + 1, 0, none⟩) (by simp) (.slice A9 (o.length + 1) c9)
    have hss : w.heap.size + 2 ≤ (w9.setCell ⟨w.heap.size + 1, 0, none⟩ (.slice A9 (o.length + 1) c9)).heap.size := by simp; omega
    clear ho9' x9 y9
    obtain ⟨An, cn, e1, _, hrn⟩ := hn y hy6
    have q1 := net_cell (hs := [h0, h1, h2, h3, h4, h5]) xs e1
    have q2 : (y : Int) < 6 := by omega
    have q3 : (0 : Int) ≤ (y : Int) := by omega
    have hLl := near_le l (y : Int) n
    obtain ⟨ws, hws⟩ : ∃ ws, ws = w9.setCell ⟨w.heap.size + 1, 0, none⟩ (.slice A9 (o.length + 1) c9) := ⟨_, rfl⟩
    rw [← hws] at xs ys hbs hos hss q1
    have hol2 : (o ++ [(y : Int)]).length = o.length + 1 := by simp
    have HIX := Lib.hid (indexN_c (w.heap.size + 1) A9 An (o ++ [(y : Int)]) (nearL l y n) c9 cn ws (by omega) (by omega) (by omega) (by rw [hol2]; exact ys.one.1) (own_rd hos).1 (hrn.later hbs))
    have hIC := idxN_cases (nearL l y n) (o ++ [(y : Int)])
    have HNL := fun i h => Lib.hid (@near_lt l n i y h)
    have HWK : ∀ k y', (nearL l y n).find? (fun y' => !(o ++ [(y : Int)]).contains y') = some y' → walkTo l n (k + 1) o y = walkTo l n k (o ++ [(y : Int)]) y' := fun k y' h => by rw [walkTo, h]
    have HWN : ∀ k, (nearL l y n).find? (fun y' => !(o ++ [(y : Int)]).contains y') = none → walkTo l n k o y = o ++ [(y : Int)] := fun k h => by
      cases k with
      | zero => rfl
      | succ k => rw [walkTo, h]
    have HE1 := Lib.hid e1
    have HNX := fun y' h h' => Lib.hid (HO.out.next (y := y') h h')
    generalize idxN (nearL l y n) (o ++ [(y : Int)]) = ix at *
    clear e1 hn
    rw [hws] at q1
    go_wp2_with (fail)
    rw [← hws]
    clear hws q1 d0 d1
    refine HIX.out.mono ?_
    rintro e w5 ⟨rfl, hb5⟩
    have x5 := xs.call hb5
    have y5 := ys.call hb5
    have ho5 := own_call hos hb5
    have hbw5 := bl_call hbs hb5
    have hs5 := hb5.size
    obtain ⟨d0, d1⟩ := y5.one
    have q1 := net_cell (hs := [h0, h1, h2, h3, h4, h5]) x5 HE1.out
    rcases hIC with ⟨rfl, hf⟩ | ⟨i, hil, rfl, hf, hc⟩
    · have HE : Hid (walkL l n z = o ++ [(y : Int)]) := by show _ = _; rw [← HW.out]; exact HWN gk hf
      clear HWK HWN hf HNL HNX q1
      go_wp2_with (fail)
      go_ret
      refine ⟨A9, c9, ?_, ?_, hbw5⟩
      · rw [HE.out, hol2]; rfl
      · rw [HE.out, hol2]; exact own_base ho5 (by omega)
    · obtain ⟨y', hy', hyn⟩ := (HNL i hil).out
      rw [hy'] at hf hc
      have hnew : (y' : Int) ∉ o ++ [(y : Int)] := by
        intro h
        have : (o ++ [(y : Int)]).contains (y' : Int) = true := List.contains_iff_mem.2 h
        rw [this] at hc; cases hc
      have HNX2 := HNX y' hyn hnew
      rcases gk with _ | gi
      · have := HNX2.out.few
        have h := HL.out
        rw [hol2] at this
        omega
      · have HW2 : Hid (walkTo l n gi (o ++ [(y : Int)]) y' = walkL l n z) := by show _ = _; rw [← HWK gi _ hf]; exact HW.out
        obtain ⟨b2, o2, he2, _, hcc⟩ := (hrn.later hbw5).at_ (k := i) (by simpa using hil)
        subst he2
        have p0 := hcc i _ (ints_get hil)
        rw [hy'] at p0
        have hil' : (i : Int) < ((nearL l y n).length : Int) := by omega
        have hge : ¬ ((i : Int) < 0) := by omega
        clear HWK HWN hf HNL HNX hcc hc hnew hy'
        generalize (nearL l y n).length = m at *
        go_wp2_with (fail)
        go_roundg gi
        case rel =>
          refine ⟨o ++ [(y : Int)], y', .slice A9 (o.length + 1) c9, rfl, ?_, HW2, HNX2, x5, y5, by rw [hol2]; exact ho5, by omega, hbw5⟩
          show _ = _
          have h := HL.out
          rw [hol2]; omega
        case measure => omega
end Go.Proofs.Ytjgpfnnokdcgoaa

/- The order of a line and of a ring. -/
namespace Go.Proofs.Ytjgpfnnokdcgoaa
open Go.RowKit Go.Maps

/-- The first zone from which a walk goes through all zones. -/
def lineS (l : List (Int × Int)) (n : Nat) : Option Nat := (List.range n).find? fun z => decide ((walkL l n z).length = n)
def lnS (l : List (Int × Int)) (n : Nat) (o : Option Nat) : List Int := match o with | some z => walkL l n z | none => []
def lnL (l : List (Int × Int)) (n : Nat) : List Int := if l.length + 1 = n then lnS l n (lineS l n) else []
def rgL (l : List (Int × Int)) (n : Nat) : List Int := if l.length = n ∧ (walkL l n 0).length = n ∧ (zoneOk n ((walkL l n 0).getD (n - 1) 0) && linkB l 0 ((walkL l n 0).getD (n - 1) 0)) = true then walkL l n 0 else []
/-- A list of numbers of the call's own; nil where it is empty. -/
def OutN (L : List Int) (w : World) (e : Ending) (w' : World) : Prop :=
  ∃ A' c', e = .returned (.slice A' L.length c') ∧ w'.ownsRow w.heap.size 3 1 (.slice A' L.length c') L.length (ints L) ∧ (L = [] → A' = none) ∧ Below w.heap.size w w'

set_option maxRecDepth 100000 in
set_option maxHeartbeats 4000000 in
theorem lineOf_c (n : Nat) (A : Option Addr) (l : List (Int × Int)) (c : Nat) (w : World) (ht : trapE n l = 0) (hr : Rd w A (cellsP l)) :
    Calls Try.prog 78 #[trapV n A l.length c] w (OutN (lnL l n) w) := by
  have x0 := Bx.new w 24 #[.int .i64 n, .slice A l.length c]
  have hb0 := bl_alloc (Below.refl w.heap.size w) (.cells #[.int .i64 n, .slice A l.length c] 24)
  generalize hw0 : w.alloc (.cells #[.int .i64 n, .slice A l.length c] 24) = w0 at *
  obtain ⟨m, hm, hn1, h6⟩ := trap_nat ht
  have hmn : m = n := by omega
  subst hmn
  have hl36 := trap_len ht
  have HN := fun w1 h => Lib.hid (netOf_c m A l c w1 ht (by omega) h)
  have HWK := fun (h0 h1 h2 h3 h4 h5 : Value) (z : Nat) w1 hz h => Lib.hid (walk_c m l h0 h1 h2 h3 h4 h5 z w1 hz h6 h)
  obtain ⟨c0, c1, _⟩ := x0.two
  have hw1 : IntKind.i64.wrap ((m : Int) - 1) = (m : Int) - 1 := by simp [IntKind.wrap, IntKind.bits, IntKind.signed]; omega
  by_cases hl : l.length + 1 = m
  · have e1 : lnL l m = lnS l m (lineS l m) := by rw [lnL, if_pos hl]
    have hne : ((l.length : Int) != (m : Int) - 1) = false := by simp; omega
    rw [e1]
    have HS : ∀ k, k < m → (∀ j, j < k → (walkL l m j).length ≠ m) → (walkL l m k).length = m → lineS l m = some k := fun k hk h h' => by
      rw [lineS, List.find?_range_eq_some]
      exact ⟨by simpa using h', by simpa using hk, fun j hj => by simpa using h j hj⟩
    have HSN : (∀ j, j < m → (walkL l m j).length ≠ m) → lineS l m = none := fun h => by
      rw [lineS, List.find?_range_eq_none]
      intro j hj
      simpa using h j hj
    clear e1 hl ht hm
    generalize lineS l m = S at *
    go_enter Try.func78, Try.ntmps78
    go_wp2_with (fail)
    refine (HN _ (hr.later hb0)).out.mono ?_
    rintro e w1 ⟨h0, h1, h2, h3, h4, h5, rfl, htb, hb1⟩
    have hnr := NetR.of htb
    obtain ⟨A0, n0, d0, rfl⟩ := htb.form (k := 0) (by simp) rfl
    obtain ⟨A1, n1, d1, rfl⟩ := htb.form (k := 1) (by simp) rfl
    obtain ⟨A2, n2, d2, rfl⟩ := htb.form (k := 2) (by simp) rfl
    obtain ⟨A3, n3, d3, rfl⟩ := htb.form (k := 3) (by simp) rfl
    obtain ⟨A4, n4, d4, rfl⟩ := htb.form (k := 4) (by simp) rfl
    obtain ⟨A5, n5, d5, rfl⟩ := htb.form (k := 5) (by simp) rfl
    have hb01 := bl_call hb0 hb1
    have x1 := x0.call hb1
    have x2 := x1.alloc (.cells #[.int .i64 m, .slice A0 n0 d0, .slice A1 n1 d1, .slice A2 n2 d2, .slice A3 n3 d3, .slice A4 n4 d4, .slice A5 n5 d5] 78)
    have y2 := Bx.new w1 78 #[.int .i64 m, .slice A0 n0 d0, .slice A1 n1 d1, .slice A2 n2 d2, .slice A3 n3 d3, .slice A4 n4 d4, .slice A5 n5 d5]
    have hal := bl_alloc (Below.refl w1.heap.size w1) (.cells #[.int .i64 m, .slice A0 n0 d0, .slice A1 n1 d1, .slice A2 n2 d2, .slice A3 n3 d3, .slice A4 n4 d4, .slice A5 n5 d5] 78)
    have hb02 := bl_call hb01 hal
    have hnr2 := hnr.later hal
    clear c0 c1 htb hnr
    obtain ⟨c0, c1, _⟩ := x2.two
    go_wp2_with (fail)
    clear c0 c1
    generalize hw2 : w1.alloc (.cells #[.int .i64 m, .slice A0 n0 d0, .slice A1 n1 d1, .slice A2 n2 d2, .slice A3 n3 d3, .slice A4 n4 d4, .slice A5 n5 d5] 78) = w2 at *
    go_loopg [17] m (fun gk iv wr => ∃ k : Nat, Hid (k + gk = m) ∧ iv = .int .i64 (k : Int) ∧ Hid (∀ j, j < k → (walkL l m j).length ≠ m) ∧ Below w2.heap.size w2 wr)
    case atStart => exact ⟨0, by simp [Hid], rfl, fun j hj => by omega, Below.refl _ _⟩
    case round =>
      obtain ⟨k, HK, rfl, HO, hb⟩ := hrel
      rcases gk with _ | gi
      · obtain rfl : k = m := HK.out
        obtain rfl := HSN HO.out
        go_wp2_with (fail)
        go_ret
        exact ⟨none, 0, rfl, World.ownsRow_nil _ _ _ _, fun _ => rfl, bl_call hb02 hb⟩
      · have hkm : k < m := by have h := HK.out; omega
        have hkm' : (k : Int) < (m : Int) := by omega
        have yr := y2.call hb
        obtain ⟨e0, e1, e2, e3, e4, e5, e6⟩ : wr.cell? ⟨w1.heap.size, 0, none⟩ = some (.int .i64 m) ∧ wr.cell? ⟨w1.heap.size, 1, none⟩ = some (.slice A0 n0 d0) ∧ wr.cell? ⟨w1.heap.size, 2, none⟩ = some (.slice A1 n1 d1) ∧ wr.cell? ⟨w1.heap.size, 3, none⟩ = some (.slice A2 n2 d2) ∧ wr.cell? ⟨w1.heap.size, 4, none⟩ = some (.slice A3 n3 d3) ∧ wr.cell? ⟨w1.heap.size, 5, none⟩ = some (.slice A4 n4 d4) ∧ wr.cell? ⟨w1.heap.size, 6, none⟩ = some (.slice A5 n5 d5) := ⟨yr.cell 0, yr.cell 1, yr.cell 2, yr.cell 3, yr.cell 4, yr.cell 5, yr.cell 6⟩
        have HWk := HWK _ _ _ _ _ _ k wr hkm (hnr2.later hb)
        have HSk := fun h => HS k hkm HO.out h
        have HOn : (walkL l m k).length ≠ m → Hid (∀ j, j < k + 1 → (walkL l m j).length ≠ m) := fun h j hj => by
          by_cases e : j = k
          · rw [e]; exact h
          · exact HO.out j (by omega)
        generalize hL : walkL l m k = L at *
        clear HS HSN
        go_wp2_with (fail)
        refine HWk.out.mono ?_
        rintro e w5 ⟨B5, c5, rfl, ho5, hb5⟩
        have hbb := bl_call hb hb5
        have x5 := x2.call hbb
        clear e0 e1 e2 e3 e4 e5 e6
        obtain ⟨c0, c1, _⟩ := x5.two
        by_cases hLm : L.length = m
        · obtain rfl := HSk hLm
          have hq : ((L.length : Int) == (m : Int)) = true := by simp [hLm]
          have HLM := Lib.hid hLm
          clear hLm HOn HSk
          go_wp2_with (fail)
          go_ret
          rw [show lnS l m (some k) = L from hL]
          refine ⟨B5, c5, rfl, ?_, ?_, bl_call hb02 hbb⟩
          · exact own_base ho5 (by have := hb02.size; have := hb.size; omega)
          · intro h; rw [h] at HLM; have := HLM.out; rw [List.length_nil] at this; omega
        · have hq : ((L.length : Int) == (m : Int)) = false := by simp; omega
          have HO2 := HOn hLm
          clear hLm HOn HSk
          go_wp2_with (fail)
          go_roundg gi
          case rel => exact ⟨k + 1, by have h := HK.out; show _ = _; omega, by go_num, HO2, hbb⟩
          case measure => omega
  · have e1 : lnL l m = [] := by rw [lnL, if_neg hl]
    have hne : ((l.length : Int) != (m : Int) - 1) = true := by simp; omega
    rw [e1]
    clear e1 hl
    go_enter Try.func78, Try.ntmps78
    go_wp2_with (fail)
    go_ret
    exact ⟨none, 0, rfl, World.ownsRow_nil _ _ _ _, fun _ => rfl, hb0⟩

theorem linked0_c (Z : Nat) (l : List (Int × Int)) (h0 h1 h2 h3 h4 h5 : Value) (b : Int) (w : World) (hZ : Z ≤ 6) (hn : NetR w Z l [h0, h1, h2, h3, h4, h5]) :
    Calls Try.prog 92 #[.agg #[.int .i64 Z, h0, h1, h2, h3, h4, h5], .int .i64 0, .int .i64 b] w fun e w' => e = .returned (.bool (zoneOk Z b && linkB l 0 b)) ∧ Below w.heap.size w w' := linked_c Z l h0 h1 h2 h3 h4 h5 0 b w (by omega) hZ hn
theorem own_some {w : World} {base e size n c : Nat} {A : Option Addr} {xs : List Value} (h : w.ownsRow base e size (.slice A n c) n xs) (hn : 0 < n) : A.isNone = false := by
  rcases h.2 with ⟨h0, _⟩ | ⟨g, cap, cur, hv, _⟩
  · injection h0 with _ h1 _; omega
  · injection hv with h1 _ _; rw [h1]; rfl

set_option maxRecDepth 100000 in
set_option maxHeartbeats 4000000 in
theorem ringOf_c (n : Nat) (A : Option Addr) (l : List (Int × Int)) (c : Nat) (w : World) (ht : trapE n l = 0) (hr : Rd w A (cellsP l)) :
    Calls Try.prog 82 #[trapV n A l.length c] w (OutN (rgL l n) w) := by
  have x0 := Bx.new w 24 #[.int .i64 n, .slice A l.length c]
  have hb0 := bl_alloc (Below.refl w.heap.size w) (.cells #[.int .i64 n, .slice A l.length c] 24)
  generalize hw0 : w.alloc (.cells #[.int .i64 n, .slice A l.length c] 24) = w0 at *
  obtain ⟨m, hm, hn1, h6⟩ := trap_nat ht
  have hmn : m = n := by omega
  subst hmn
  have hl36 := trap_len ht
  have HN := fun w1 h => Lib.hid (netOf_c m A l c w1 ht (by omega) h)
  have HWK := fun (h0 h1 h2 h3 h4 h5 : Value) w1 h => Lib.hid (walk_c m l h0 h1 h2 h3 h4 h5 0 w1 (by omega) h6 h)
  have HLK := fun (h0 h1 h2 h3 h4 h5 : Value) b w1 h => Lib.hid (linked0_c m l h0 h1 h2 h3 h4 h5 b w1 h6 h)
  obtain ⟨c0, c1, _⟩ := x0.two
  have hw1 : IntKind.i64.wrap ((m : Int) - 1) = (m : Int) - 1 := by simp [IntKind.wrap, IntKind.bits, IntKind.signed]; omega
  by_cases hl : l.length = m
  · have hne : ((l.length : Int) != (m : Int)) = false := by simp [hl]
    have HRG : Hid (rgL l m = if (walkL l m 0).length = m ∧ (zoneOk m ((walkL l m 0).getD (m - 1) 0) && linkB l 0 ((walkL l m 0).getD (m - 1) 0)) = true then walkL l m 0 else []) := by
      show _ = _
      rw [rgL]; simp [hl]
    generalize rgL l m = R at *
    clear ht hm hl
    go_enter Try.func82, Try.ntmps82
    go_wp2_with (fail)
    refine (HN _ (hr.later hb0)).out.mono ?_
    rintro e w1 ⟨h0, h1, h2, h3, h4, h5, rfl, htb, hb1⟩
    have hnr := NetR.of htb
    obtain ⟨A0, n0, d0, rfl⟩ := htb.form (k := 0) (by simp) rfl
    obtain ⟨A1, n1, d1, rfl⟩ := htb.form (k := 1) (by simp) rfl
    obtain ⟨A2, n2, d2, rfl⟩ := htb.form (k := 2) (by simp) rfl
    obtain ⟨A3, n3, d3, rfl⟩ := htb.form (k := 3) (by simp) rfl
    obtain ⟨A4, n4, d4, rfl⟩ := htb.form (k := 4) (by simp) rfl
    obtain ⟨A5, n5, d5, rfl⟩ := htb.form (k := 5) (by simp) rfl
    have hb01 := bl_call hb0 hb1
    have x1 := x0.call hb1
    have x2 := x1.alloc (.cells #[.int .i64 m, .slice A0 n0 d0, .slice A1 n1 d1, .slice A2 n2 d2, .slice A3 n3 d3, .slice A4 n4 d4, .slice A5 n5 d5] 78)
    have y2 := Bx.new w1 78 #[.int .i64 m, .slice A0 n0 d0, .slice A1 n1 d1, .slice A2 n2 d2, .slice A3 n3 d3, .slice A4 n4 d4, .slice A5 n5 d5]
    have hal := bl_alloc (Below.refl w1.heap.size w1) (.cells #[.int .i64 m, .slice A0 n0 d0, .slice A1 n1 d1, .slice A2 n2 d2, .slice A3 n3 d3, .slice A4 n4 d4, .slice A5 n5 d5] 78)
    have hb02 := bl_call hb01 hal
    have hnr2 := hnr.later hal
    clear c0 c1 htb hnr
    have HEL : ∀ W, Bx W w1.heap.size 78 #[.int .i64 m, .slice A0 n0 d0, .slice A1 n1 d1, .slice A2 n2 d2, .slice A3 n3 d3, .slice A4 n4 d4, .slice A5 n5 d5] → Hid (W.cell? ⟨w1.heap.size, 0, none⟩ = some (.int .i64 m) ∧ W.cell? ⟨w1.heap.size, 1, none⟩ = some (.slice A0 n0 d0) ∧ W.cell? ⟨w1.heap.size, 2, none⟩ = some (.slice A1 n1 d1) ∧ W.cell? ⟨w1.heap.size, 3, none⟩ = some (.slice A2 n2 d2) ∧ W.cell? ⟨w1.heap.size, 4, none⟩ = some (.slice A3 n3 d3) ∧ W.cell? ⟨w1.heap.size, 5, none⟩ = some (.slice A4 n4 d4) ∧ W.cell? ⟨w1.heap.size, 6, none⟩ = some (.slice A5 n5 d5)) := fun W y => ⟨y.cell 0, y.cell 1, y.cell 2, y.cell 3, y.cell 4, y.cell 5, y.cell 6⟩
    obtain ⟨e0, e1, e2, e3, e4, e5, e6⟩ := (HEL _ y2).out
    have HWk := HWK _ _ _ _ _ _ _ hnr2
    generalize walkL l m 0 = L at *
    go_wp2_with (fail)
    generalize hw2 : w1.alloc (.cells #[.int .i64 m, .slice A0 n0 d0, .slice A1 n1 d1, .slice A2 n2 d2, .slice A3 n3 d3, .slice A4 n4 d4, .slice A5 n5 d5] 78) = w2 at *
    refine HWk.out.mono ?_
    rintro e w5 ⟨B5, c5, rfl, ho5, hb5⟩
    clear e0 e1 e2 e3 e4 e5 e6 HWk HWK
    have hr5 := (own_rd ho5).1
    have x5 := x2.call hb5
    have y5 := y2.call hb5
    have hb05 := bl_call hb02 hb5
    have hnr5 := hnr2.later hb5
    have hC : Below w5.heap.size w5 w5.drew := (Below.refl _ _).drew
    have HCC := fun W (hW : Below w5.heap.size w5 W) => Lib.hid ((x5.call hW).two)
    have HEE := fun W (hW : Below w5.heap.size w5 W) => HEL W (y5.call hW)
    have HNR := fun W (hW : Below w5.heap.size w5 W) => Lib.hid (hnr5.later hW)
    clear HEL
    obtain ⟨c0, c1, _⟩ := x5.two
    by_cases hLm : L.length = m
    · subst hLm
      have hq : ((L.length : Int) == (L.length : Int)) = true := by simp
      obtain ⟨b9, o9, rfl, _, _⟩ := hr5.at_ (k := L.length - 1) (by rw [ints_length]; omega)
      have HCA : ∀ W, Below w5.heap.size w5 W → Hid (W.cell? ⟨b9, o9 + (L.length - 1), none⟩ = some (.int .i64 (L.getD (L.length - 1) 0))) := fun W hW => by
        obtain ⟨b2, o2, he, _, hc⟩ := (hr5.later hW).at_ (k := L.length - 1) (by rw [ints_length]; omega)
        injection he with he
        injection he with e1 e2
        subst e1 e2
        exact hc (L.length - 1) _ (ints_get (by omega))
      have hcast : (L.length : Int) - 1 = ((L.length - 1 : Nat) : Int) := by omega
      have hlt : ((L.length - 1 : Nat) : Int) < (L.length : Int) := by omega
      have hw2 : IntKind.i64.wrap ((L.length - 1 : Nat) : Int) = ((L.length - 1 : Nat) : Int) := by rw [← hcast]; exact hw1
      have HLk := HLK (.slice A0 n0 d0) (.slice A1 n1 d1) (.slice A2 n2 d2) (.slice A3 n3 d3) (.slice A4 n4 d4) (.slice A5 n5 d5) (L.getD (L.length - 1) 0)
      have hLV : (L = [] → (some (⟨b9, o9, none⟩ : Addr)) = none) := fun h => by rw [h] at hn1; simp at hn1
      have hoF := own_base ho5 hb02.size
      generalize hlv : L.getD (L.length - 1) 0 = lv at *
      clear hlv ho5 HLK
      cases hb : (zoneOk L.length lv && linkB l 0 lv) with
      | true =>
        have HR : Hid (R = L) := by show _ = _; rw [HRG.out, if_pos ⟨rfl, by rw [hb]⟩]
        rw [hb] at HLk
        clear HRG hb
        go_wp2_with (fail)
        refine wp_region_low (hC) (by kernel_rfl) (by kernel_rfl) ?_
        repeat (first
          | go_big_quiet_skip
          | (go_big_quiet_want
             apply Exists.intro
             refine And.intro (fun W hW => ?_) ?_
             · (obtain ⟨c0, c1, _⟩ := (HCC W hW).out; obtain ⟨e0, e1, e2, e3, e4, e5, e6⟩ := (HEE W hW).out; have p0 := (HCA W hW).out)
               go_simp
               first
                 | exact rfl
                 | ((refine (HLk W (HNR W hW).out).out.mono ?_; rintro e w4 ⟨rfl, hb4⟩; exact ⟨rfl, bl_call hW hb4⟩))
             try go_simp
             go_big_quiet_on))
        refine wpQuiet_nil ?_
        intro w9 hb9
        go_wp2_with (fail)
        go_ret
        refine ⟨some ⟨b9, o9, none⟩, c5, ?_, ?_, ?_, bl_call hb05 hb9⟩
        · rw [HR.out]; rfl
        · rw [HR.out]; exact own_call hoF hb9
        · rw [HR.out]; exact hLV
      | false =>
        have HR : Hid (R = []) := by show _ = _; rw [HRG.out, if_neg (by rw [hb]; simp)]
        rw [hb] at HLk
        clear HRG hb
        go_wp2_with (fail)
        refine wp_region_low (hC) (by kernel_rfl) (by kernel_rfl) ?_
        repeat (first
          | go_big_quiet_skip
          | (go_big_quiet_want
             apply Exists.intro
             refine And.intro (fun W hW => ?_) ?_
             · (obtain ⟨c0, c1, _⟩ := (HCC W hW).out; obtain ⟨e0, e1, e2, e3, e4, e5, e6⟩ := (HEE W hW).out; have p0 := (HCA W hW).out)
               go_simp
               first
                 | exact rfl
                 | ((refine (HLk W (HNR W hW).out).out.mono ?_; rintro e w4 ⟨rfl, hb4⟩; exact ⟨rfl, bl_call hW hb4⟩))
             try go_simp
             go_big_quiet_on))
        refine wpQuiet_nil ?_
        intro w9 hb9
        go_wp2_with (fail)
        go_ret
        rw [HR.out]
        exact ⟨none, 0, rfl, World.ownsRow_nil _ _ _ _, fun _ => rfl, bl_call hb05 hb9⟩
    · have hq : ((L.length : Int) == (m : Int)) = false := by simp; omega
      have hqd : decide (L.length = m) = false := by simpa using hLm
      have HR : Hid (R = []) := by show _ = _; rw [HRG.out, if_neg (by rintro ⟨h, _⟩; exact hLm h)]
      clear HRG HLK hLm
      go_wp2_with (fail)
      go_quiet (fail)
      go_wp2_with (fail)
      go_ret
      rw [HR.out]
      exact ⟨none, 0, rfl, World.ownsRow_nil _ _ _ _, fun _ => rfl, below_drewN hb05 _⟩
  · have e1 : rgL l m = [] := by rw [rgL, if_neg (by rintro ⟨h, _⟩; exact hl h)]
    have hne : ((l.length : Int) != (m : Int)) = true := by simp; omega
    rw [e1]
    clear e1 hl
    go_enter Try.func82, Try.ntmps82
    go_wp2_with (fail)
    go_ret
    exact ⟨none, 0, rfl, World.ownsRow_nil _ _ _ _, fun _ => rfl, hb0⟩

def lineG (Z : Int) (l : List (Int × Int)) : List Int := if trapE Z l = 0 then lnL l Z.toNat else []
set_option maxRecDepth 100000 in
set_option maxHeartbeats 2000000 in
theorem Line_c (Z : Int) (A : Option Addr) (l : List (Int × Int)) (c : Nat) (w : World) (hlen : l.length ≤ 1000) (hr : Rd w A (cellsP l)) :
    Calls Try.prog 45 #[trapV Z A l.length c] w fun e w' => ∃ A' c', e = .returned (.tuple #[.slice A' (lineG Z l).length c', .bool (decide (lineG Z l ≠ [])), .int .i64 (trapE Z l)]) ∧ w'.ownsRow w.heap.size 3 1 (.slice A' (lineG Z l).length c') (lineG Z l).length (ints (lineG Z l)) ∧ Below w.heap.size w w' := by
  have x0 := Bx.new w 24 #[.int .i64 Z, .slice A l.length c]
  have hb0 := bl_alloc (Below.refl w.heap.size w) (.cells #[.int .i64 Z, .slice A l.length c] 24)
  generalize hw0 : w.alloc (.cells #[.int .i64 Z, .slice A l.length c] 24) = w0 at *
  have HV := Lib.hid (validate_c Z A l c w0 hlen (hr.later hb0))
  obtain ⟨c0, c1, _⟩ := x0.two
  by_cases ht : trapE Z l = 0
  · obtain ⟨n, rfl, _, _⟩ := trap_nat ht
    have e1 : lineG n l = lnL l n := by rw [lineG, if_pos ht]; simp
    have HO := fun w1 h => Lib.hid (lineOf_c n A l c w1 ht h)
    have hN : ∀ (w : World) (a : Option Addr) (n c : Nat), (binOp .neq 25 (.slice a n c) (.slice none 0 0)).run Try.prog w = .ok (.bool (!a.isNone)) w := fun w a n c => run_neq_slice_nil_any w 25 3 a n c 0 0 Try.underlying25
    rw [e1, ht]
    rw [ht] at HV
    generalize lnL l n = L at *
    clear e1 ht
    unfold OutN at HO
    go_enter Try.func45, Try.ntmps45
    go_wp2_with (fail)
    refine HV.out.mono ?_
    rintro e w1 ⟨rfl, hb1⟩
    have hb01 := bl_call hb0 hb1
    clear c0 c1
    obtain ⟨c0, c1, _⟩ := (x0.call hb1).two
    go_wp2_with (fail)
    refine (HO _ (hr.later hb01)).out.mono ?_
    rintro e w2 ⟨A', c', rfl, ho, hnil, hb2⟩
    have hb02 := bl_call hb01 hb2
    by_cases hL : L = []
    · obtain rfl := hnil hL
      have HD : Hid (decide (L ≠ []) = false) := by show _ = _; simp [hL]
      clear hL hnil
      go_wp2_with (fail)
      go_ret3
      exact ⟨none, c', by rw [HD.out]; rfl, own_base ho hb01.size, hb02⟩
    · have hA := own_some ho (List.length_pos_iff.2 hL)
      have HD : Hid (decide (L ≠ []) = true) := by show _ = _; simp [hL]
      have hA2 : (!A'.isNone) = true := by rw [hA]; rfl
      clear hL hnil
      go_wp2_with (fail)
      go_ret3
      exact ⟨A', c', by rw [HD.out]; rfl, own_base ho hb01.size, hb02⟩
  · have e1 : lineG Z l = [] := by rw [lineG, if_neg ht]
    rw [e1]
    clear e1
    generalize trapE Z l = te at *
    go_enter Try.func45, Try.ntmps45
    go_wp2_with (fail)
    refine HV.out.mono ?_
    rintro e w1 ⟨rfl, hb1⟩
    go_wp2_with (fail)
    go_ret3
    exact ⟨none, 0, rfl, World.ownsRow_nil _ _ _ _, bl_call hb0 hb1⟩

def ringG (Z : Int) (l : List (Int × Int)) : List Int := if trapE Z l = 0 then rgL l Z.toNat else []
set_option maxRecDepth 100000 in
set_option maxHeartbeats 2000000 in
theorem Ring_c (Z : Int) (A : Option Addr) (l : List (Int × Int)) (c : Nat) (w : World) (hlen : l.length ≤ 1000) (hr : Rd w A (cellsP l)) :
    Calls Try.prog 47 #[trapV Z A l.length c] w fun e w' => ∃ A' c', e = .returned (.tuple #[.slice A' (ringG Z l).length c', .bool (decide (ringG Z l ≠ [])), .int .i64 (trapE Z l)]) ∧ w'.ownsRow w.heap.size 3 1 (.slice A' (ringG Z l).length c') (ringG Z l).length (ints (ringG Z l)) ∧ Below w.heap.size w w' := by
  have x0 := Bx.new w 24 #[.int .i64 Z, .slice A l.length c]
  have hb0 := bl_alloc (Below.refl w.heap.size w) (.cells #[.int .i64 Z, .slice A l.length c] 24)
  generalize hw0 : w.alloc (.cells #[.int .i64 Z, .slice A l.length c] 24) = w0 at *
  have HV := Lib.hid (validate_c Z A l c w0 hlen (hr.later hb0))
  obtain ⟨c0, c1, _⟩ := x0.two
  by_cases ht : trapE Z l = 0
  · obtain ⟨n, rfl, _, _⟩ := trap_nat ht
    have e1 : ringG n l = rgL l n := by rw [ringG, if_pos ht]; simp
    have HO := fun w1 h => Lib.hid (ringOf_c n A l c w1 ht h)
    have hN : ∀ (w : World) (a : Option Addr) (n c : Nat), (binOp .neq 25 (.slice a n c) (.slice none 0 0)).run Try.prog w = .ok (.bool (!a.isNone)) w := fun w a n c => run_neq_slice_nil_any w 25 3 a n c 0 0 Try.underlying25
    rw [e1, ht]
    rw [ht] at HV
    generalize rgL l n = L at *
    clear e1 ht
    unfold OutN at HO
    go_enter Try.func47, Try.ntmps47
    go_wp2_with (fail)
    refine HV.out.mono ?_
    rintro e w1 ⟨rfl, hb1⟩
    have hb01 := bl_call hb0 hb1
    clear c0 c1
    obtain ⟨c0, c1, _⟩ := (x0.call hb1).two
    go_wp2_with (fail)
    refine (HO _ (hr.later hb01)).out.mono ?_
    rintro e w2 ⟨A', c', rfl, ho, hnil, hb2⟩
    have hb02 := bl_call hb01 hb2
    by_cases hL : L = []
    · obtain rfl := hnil hL
      have HD : Hid (decide (L ≠ []) = false) := by show _ = _; simp [hL]
      clear hL hnil
      go_wp2_with (fail)
      go_ret3
      exact ⟨none, c', by rw [HD.out]; rfl, own_base ho hb01.size, hb02⟩
    · have hA := own_some ho (List.length_pos_iff.2 hL)
      have HD : Hid (decide (L ≠ []) = true) := by show _ = _; simp [hL]
      have hA2 : (!A'.isNone) = true := by rw [hA]; rfl
      clear hL hnil
      go_wp2_with (fail)
      go_ret3
      exact ⟨A', c', by rw [HD.out]; rfl, own_base ho hb01.size, hb02⟩
  · have e1 : ringG Z l = [] := by rw [ringG, if_neg ht]
    rw [e1]
    clear e1
    generalize trapE Z l = te at *
    go_enter Try.func47, Try.ntmps47
    go_wp2_with (fail)
    refine HV.out.mono ?_
    rintro e w1 ⟨rfl, hb1⟩
    go_wp2_with (fail)
    go_ret3
    exact ⟨none, 0, rfl, World.ownsRow_nil _ _ _ _, bl_call hb0 hb1⟩
end Go.Proofs.Ytjgpfnnokdcgoaa

/- The order of a line and of a ring, in the specification: the first one of all orders. -/
namespace Go.Proofs.Ytjgpfnnokdcgoaa
open Go.RowKit Go.Maps

/-- The first order that is a chain. -/
def chainF (n : Nat) (f : List Int → Bool) : Option (List Int) := (ordersL n (numbL n)).find? f
def rlineO (Z : Int) (l : List (Int × Int)) : Option (List Int) := if trapE Z l = 0 then chainF Z.toNat fun o => chainB l o false else none
def rringO (Z : Int) (l : List (Int × Int)) : Option (List Int) := if trapE Z l = 0 then (if 3 ≤ Z then chainF Z.toNat (fun o => decide (o.getD 0 0 = 0) && chainB l o true) else none) else none
/-- An order that is found, or none. -/
def OutS (o : Option (List Int)) (x : Int) (w : World) (e : Ending) (w' : World) : Prop :=
  ∃ A' c', e = .returned (.tuple #[.slice A' (o.getD []).length c', .bool o.isSome, .int .i64 x]) ∧ w'.ownsRow w.heap.size 3 1 (.slice A' (o.getD []).length c') (o.getD []).length (ints (o.getD [])) ∧ Below w.heap.size w w'

set_option maxRecDepth 100000 in
set_option maxHeartbeats 8000000 in
theorem rLine_c (Z : Int) (A : Option Addr) (l : List (Int × Int)) (c : Nat) (w : World) (hlen : l.length ≤ 1000) (hr : Rd w A (cellsP l)) :
    Calls Try.prog 46 #[trapV Z A l.length c] w (OutS (rlineO Z l) (trapE Z l) w) := by
  have x0 := Bx.new w 24 #[.int .i64 Z, .slice A l.length c]
  have hb0 := bl_alloc (Below.refl w.heap.size w) (.cells #[.int .i64 Z, .slice A l.length c] 24)
  generalize hw0 : w.alloc (.cells #[.int .i64 Z, .slice A l.length c] 24) = w0 at *
  have HV := Lib.hid (rvalidate_c Z A l c w0 hlen (hr.later hb0))
  obtain ⟨c0, c1, _⟩ := x0.two
  by_cases ht : trapE Z l = 0
  · obtain ⟨n, rfl, _, h6⟩ := trap_nat ht
    have hG : rlineO n l = (ordersL n (numbL n)).find? fun o => chainB l o false := by rw [rlineO, if_pos ht, chainF]; simp
    rw [hG, ht]
    rw [ht] at HV
    have HNB := fun w1 => Lib.hid (numbers_c n w1 (by omega))
    have HOR := fun A2 c2 w1 hc h => Lib.hid (orders_c n h6 (numbL n) (numbL_len n) A2 c2 w1 hc h)
    rw [numbL_len] at HOR
    have HEA := Lib.hid (ordersL_each n _ (numbL_len n))
    have hMl : (ordersL n (numbL n)).length ≤ 720 := by rw [ordersL_len n _ (numbL_len n)]; exact factN_le n h6
    have HCH := fun (o : List Int) B2 d2 w1 (hl : o.length ≤ 1000) h1 h2 => Lib.hid (chain_c n A B2 l o false c d2 w1 hlen hl h1 h2)
    generalize ordersL n (numbL n) = M at *
    generalize hS : M.find? (fun o => chainB l o false) = S at *
    have HS := Lib.hid hS
    clear hG ht hS
    go_enter Try.func46, Try.ntmps46
    go_wp2_with (fail)
    refine HV.out.mono ?_
    rintro e w1 ⟨rfl, hb1⟩
    have hb01 := bl_call hb0 hb1
    have x1 := x0.call hb1
    clear c0 c1
    obtain ⟨c0, c1, _⟩ := x1.two
    go_wp2_with (fail)
    refine (HNB _).out.mono ?_
    rintro e w2 ⟨A2, c2, rfl, ho2, hb2⟩
    have HORa := HOR A2 c2 w2 (own_capZ ho2) (own_rd ho2).1
    go_wp2_with (fail)
    refine HORa.out.mono ?_
    rintro e w3 ⟨A3, c3, hs, rfl, ho3, hrz, hb3⟩
    have hb13 := bl_call hb2 hb3
    have hb03 := bl_call hb01 hb13
    have x3 := x1.call hb13
    have hrz1 := hrz
    have hs2 := hb2.size
    have hs01 := hb01.size
    have hm3 := (own_rd ho3).1
    have hhl : hs.length = M.length := hrz.1
    have HHL := Lib.hid hhl
    clear c0 c1 HORa hhl
    go_wp2_with (fail)
    go_loopg [7] hs.length (fun gk iv wr => ∃ j : Nat, Hid (j + gk = hs.length) ∧ iv = .int .i64 (j : Int) ∧ Hid (∀ i, i < j → chainB l (M.getD i []) false = false) ∧ Below w3.heap.size w3 wr)
    case atStart => exact ⟨0, by simp [Hid], rfl, fun i hi => by omega, Below.refl _ _⟩
    case round =>
      obtain ⟨j, HJ, rfl, HN, hb⟩ := hrel
      have hbw := bl_call hb03 hb
      rcases gk with _ | gi
      · obtain rfl : j = hs.length := HJ.out
        have HSN : Hid (S = none) := by
          show _ = _
          rw [← HS.out, List.find?_eq_none]
          intro x hx
          obtain ⟨i, hi, rfl⟩ := List.mem_iff_getElem.1 hx
          have := HN.out i (by rw [HHL.out]; exact hi)
          simp [hi] at this
          simp [this]
        go_wp2_with (fail)
        go_ret3
        rw [HSN.out]
        exact ⟨none, 0, rfl, World.ownsRow_nil _ _ _ _, hbw⟩
      · have hjl : j < hs.length := by have h := HJ.out; omega
        have hjl' : (j : Int) < (hs.length : Int) := by omega
        have hjM : j < M.length := by rw [← HHL.out]; exact hjl
        have hj7 : (j : Int) < 720 := by omega
        obtain ⟨Aj, cj, hrow, hoj⟩ := hrz.2 j hjM
        have hojl := HEA.out (M.getD j []) (by simp [hjM])
        obtain ⟨b3, o3, rfl, -, -⟩ := (hm3.later hb).at_ (k := j) hjl
        have HCA : ∀ W, Below wr.heap.size wr W → Hid (W.cell? ⟨b3, o3 + j, none⟩ = some (.slice Aj (M.getD j []).length cj)) := fun W hW => by
          obtain ⟨b5, o5, he, _, hc5⟩ := (hm3.later (bl_call hb hW)).at_ (k := j) hjl
          injection he with he
          injection he with e1 e2
          subst e1 e2
          exact hc5 j _ hrow
        have HCj := HCH (M.getD j []) Aj cj
        have hrj := fun W (hW : Below wr.heap.size wr W) => Lib.hid ((own_rd hoj).1.later (bl_call hb hW))
        have hbo : (M.getD j []).length ≤ 1000 := by omega
        have hx := x3.call hb
        obtain ⟨c0, c1, _⟩ := hx.two
        have hC : Below wr.heap.size wr wr.drew := (Below.refl _ _).drew
        have HCC := fun W (hW : Below wr.heap.size wr W) => Lib.hid ((hx.call hW).two)
        have HRR := fun W (hW : Below wr.heap.size wr W) => Lib.hid (hr.later (bl_call hbw hW))
        have p1 := (HCA _ (Below.refl _ _)).out
        have hown := own_base (own_call hoj hb) (show w.heap.size ≤ w2.heap.size by omega)
        cases hq : chainB l (M.getD j []) false with
        | true =>
          have HSS : Hid (S = some (M.getD j [])) := by
            show _ = _
            rw [← HS.out, List.find?_eq_some_iff_getElem]
            refine ⟨hq, j, hjM, by simp [hjM], fun i hi => ?_⟩
            have := HN.out i hi
            simp [show i < M.length by omega] at this
            simp [this]
          rw [hq] at HCj
          generalize M.getD j [] = oj at *
          clear hq hojl hrow hoj
          go_wp2_with (fail)
          refine wp_region_low (hC) (by kernel_rfl) (by kernel_rfl) ?_
          repeat (first
            | go_big_quiet_skip
            | (go_big_quiet_want
               apply Exists.intro
               refine And.intro (fun W hW => ?_) ?_
               · (obtain ⟨c0, c1, _⟩ := (HCC W hW).out; have p2 := (HCA W hW).out)
                 go_simp
                 first
                   | exact rfl
                   | ((refine (HCj W hbo (HRR W hW).out (hrj W hW).out).out.mono ?_; rintro e w4 ⟨rfl, hb4⟩; exact ⟨rfl, bl_call hW hb4⟩))
               try go_simp
               go_big_quiet_on))
          refine wpQuiet_nil ?_
          intro w9 hb9
          have p9 := (HCA _ hb9).out
          go_wp2_with (fail)
          go_ret3
          rw [HSS.out]
          exact ⟨Aj, cj, rfl, own_call hown hb9, bl_call hbw hb9⟩
        | false =>
          have HN2 : Hid (∀ i, i < j + 1 → chainB l (M.getD i []) false = false) := fun i hi => by
            by_cases e : i = j
            · rw [e]; exact hq
            · exact HN.out i (by omega)
          rw [hq] at HCj
          generalize M.getD j [] = oj at *
          clear hq hojl hrow hoj
          go_wp2_with (fail)
          refine wp_region_low (hC) (by kernel_rfl) (by kernel_rfl) ?_
          repeat (first
            | go_big_quiet_skip
            | (go_big_quiet_want
               apply Exists.intro
               refine And.intro (fun W hW => ?_) ?_
               · (obtain ⟨c0, c1, _⟩ := (HCC W hW).out; have p2 := (HCA W hW).out)
                 go_simp
                 first
                   | exact rfl
                   | ((refine (HCj W hbo (HRR W hW).out (hrj W hW).out).out.mono ?_; rintro e w4 ⟨rfl, hb4⟩; exact ⟨rfl, bl_call hW hb4⟩))
               try go_simp
               go_big_quiet_on))
          refine wpQuiet_nil ?_
          intro w9 hb9
          go_wp2_with (fail)
          go_roundg gi
          case rel => exact ⟨j + 1, by have h := HJ.out; show _ = _; omega, by go_num, HN2, bl_call hb hb9⟩
          case measure => omega
  · have hG : rlineO Z l = none := by rw [rlineO, if_neg ht]
    rw [hG]
    clear hG
    generalize trapE Z l = te at *
    go_enter Try.func46, Try.ntmps46
    go_wp2_with (fail)
    refine HV.out.mono ?_
    rintro e w1 ⟨rfl, hb1⟩
    go_wp2_with (fail)
    go_ret3
    exact ⟨none, 0, rfl, World.ownsRow_nil _ _ _ _, bl_call hb0 hb1⟩

set_option maxRecDepth 100000 in
set_option maxHeartbeats 8000000 in
theorem rRing_c (Z : Int) (A : Option Addr) (l : List (Int × Int)) (c : Nat) (w : World) (hlen : l.length ≤ 1000) (hr : Rd w A (cellsP l)) :
    Calls Try.prog 48 #[trapV Z A l.length c] w (OutS (rringO Z l) (trapE Z l) w) := by
  have x0 := Bx.new w 24 #[.int .i64 Z, .slice A l.length c]
  have hb0 := bl_alloc (Below.refl w.heap.size w) (.cells #[.int .i64 Z, .slice A l.length c] 24)
  generalize hw0 : w.alloc (.cells #[.int .i64 Z, .slice A l.length c] 24) = w0 at *
  have HV := Lib.hid (rvalidate_c Z A l c w0 hlen (hr.later hb0))
  obtain ⟨c0, c1, _⟩ := x0.two
  by_cases ht : trapE Z l = 0
  · obtain ⟨n, rfl, _, h6⟩ := trap_nat ht
    by_cases h3 : (3 : Int) ≤ (n : Int)
    · have hG : rringO n l = (ordersL n (numbL n)).find? fun o => decide (o.getD 0 0 = 0) && chainB l o true := by rw [rringO, if_pos ht, if_pos h3, chainF]; simp
      have hn3 : ¬ (n : Int) < 3 := by omega
      rw [hG, ht]
      rw [ht] at HV
      have HNB := fun w1 => Lib.hid (numbers_c n w1 (by omega))
      have HOR := fun A2 c2 w1 hc h => Lib.hid (orders_c n h6 (numbL n) (numbL_len n) A2 c2 w1 hc h)
      rw [numbL_len] at HOR
      have HEA := Lib.hid (ordersL_each n _ (numbL_len n))
      have hMl : (ordersL n (numbL n)).length ≤ 720 := by rw [ordersL_len n _ (numbL_len n)]; exact factN_le n h6
      have HCH := fun (o : List Int) B2 d2 w1 (hl : o.length ≤ 1000) h1 h2 => Lib.hid (chain_c n A B2 l o true c d2 w1 hlen hl h1 h2)
      generalize ordersL n (numbL n) = M at *
      generalize hS : M.find? (fun o => decide (o.getD 0 0 = 0) && chainB l o true) = S at *
      have HS := Lib.hid hS
      clear hG ht hS
      go_enter Try.func48, Try.ntmps48
      go_wp2_with (fail)
      refine HV.out.mono ?_
      rintro e w1 ⟨rfl, hb1⟩
      have hb01 := bl_call hb0 hb1
      have x1 := x0.call hb1
      clear c0 c1
      obtain ⟨c0, c1, _⟩ := x1.two
      go_wp2_with (fail)
      refine (HNB _).out.mono ?_
      rintro e w2 ⟨A2, c2, rfl, ho2, hb2⟩
      have HORa := HOR A2 c2 w2 (own_capZ ho2) (own_rd ho2).1
      go_wp2_with (fail)
      refine HORa.out.mono ?_
      rintro e w3 ⟨A3, c3, hs, rfl, ho3, hrz, hb3⟩
      have hb13 := bl_call hb2 hb3
      have hb03 := bl_call hb01 hb13
      have x3 := x1.call hb13
      have hs2 := hb2.size
      have hs01 := hb01.size
      have hm3 := (own_rd ho3).1
      have hhl : hs.length = M.length := hrz.1
      have HHL := Lib.hid hhl
      clear c0 c1 HORa hhl
      go_wp2_with (fail)
      go_loopg [7] hs.length (fun gk iv wr => ∃ j : Nat, Hid (j + gk = hs.length) ∧ iv = .int .i64 (j : Int) ∧ Hid (∀ i, i < j → (decide ((M.getD i []).getD 0 0 = 0) && chainB l (M.getD i []) true) = false) ∧ Below w3.heap.size w3 wr)
      case atStart => exact ⟨0, by simp [Hid], rfl, fun i hi => by omega, Below.refl _ _⟩
      case round =>
        obtain ⟨j, HJ, rfl, HN, hb⟩ := hrel
        have hbw := bl_call hb03 hb
        rcases gk with _ | gi
        · obtain rfl : j = hs.length := HJ.out
          have HSN : Hid (S = none) := by
            show _ = _
            rw [← HS.out, List.find?_eq_none]
            intro x hx
            obtain ⟨i, hi, rfl⟩ := List.mem_iff_getElem.1 hx
            have := HN.out i (by rw [HHL.out]; exact hi)
            rw [show M.getD i [] = M[i] by simp [hi]] at this
            rw [this]; simp
          go_wp2_with (fail)
          go_ret3
          rw [HSN.out]
          exact ⟨none, 0, rfl, World.ownsRow_nil _ _ _ _, hbw⟩
        · have hjl : j < hs.length := by have h := HJ.out; omega
          have hjl' : (j : Int) < (hs.length : Int) := by omega
          have hjM : j < M.length := by rw [← HHL.out]; exact hjl
          have hj7 : (j : Int) < 720 := by omega
          obtain ⟨Aj, cj, hrow, hoj⟩ := hrz.2 j hjM
          have hojl := HEA.out (M.getD j []) (by simp [hjM])
          obtain ⟨b3, o3, rfl, -, -⟩ := (hm3.later hb).at_ (k := j) hjl
          obtain ⟨b4, o4, rfl, -, -⟩ := (own_rd hoj).1.at_ (k := 0) (by rw [ints_length]; omega)
          have HCA : ∀ W, Below wr.heap.size wr W → Hid (W.cell? ⟨b3, o3 + j, none⟩ = some (.slice (some ⟨b4, o4, none⟩) (M.getD j []).length cj) ∧ W.cell? ⟨b4, o4, none⟩ = some (.int .i64 ((M.getD j []).getD 0 0))) := fun W hW => by
            obtain ⟨b5, o5, he, _, hc5⟩ := (hm3.later (bl_call hb hW)).at_ (k := j) hjl
            injection he with he
            injection he with e1 e2
            subst e1 e2
            obtain ⟨b6, o6, he, _, hc6⟩ := ((own_rd hoj).1.later (bl_call hb hW)).at_ (k := 0) (by rw [ints_length]; omega)
            injection he with he
            injection he with e1 e2
            subst e1 e2
            exact ⟨hc5 j _ hrow, hc6 0 _ (ints_get (by omega))⟩
          have HCj := HCH (M.getD j []) (some ⟨b4, o4, none⟩) cj
          have hrj := fun W (hW : Below wr.heap.size wr W) => Lib.hid ((own_rd hoj).1.later (bl_call hb hW))
          have hbo : (M.getD j []).length ≤ 1000 := by omega
          have hpos : (0 : Int) < ((M.getD j []).length : Int) := by omega
          have hposN : 0 < (M.getD j []).length := by omega
          have hposE : ¬ (M.getD j []) = [] := fun h => by rw [h] at hposN; simp at hposN
          have hx := x3.call hb
          obtain ⟨c0, c1, _⟩ := hx.two
          have hC : Below wr.heap.size wr wr.drew := (Below.refl _ _).drew
          have HCC := fun W (hW : Below wr.heap.size wr W) => Lib.hid ((hx.call hW).two)
          have HRR := fun W (hW : Below wr.heap.size wr W) => Lib.hid (hr.later (bl_call hbw hW))
          obtain ⟨p1, p2⟩ := (HCA _ (Below.refl _ _)).out
          have hown := own_base (own_call hoj hb) (show w.heap.size ≤ w2.heap.size by omega)
          have HNF : (decide ((M.getD j []).getD 0 0 = 0) && chainB l (M.getD j []) true) = false → Hid (∀ i, i < j + 1 → (decide ((M.getD i []).getD 0 0 = 0) && chainB l (M.getD i []) true) = false) := fun h i hi => by
            by_cases e : i = j
            · rw [e]; exact h
            · exact HN.out i (by omega)
          have HST : (decide ((M.getD j []).getD 0 0 = 0) && chainB l (M.getD j []) true) = true → Hid (S = some (M.getD j [])) := fun h => by
            show _ = _
            rw [← HS.out, List.find?_eq_some_iff_getElem]
            refine ⟨h, j, hjM, by simp [hjM], fun i hi => ?_⟩
            have := HN.out i hi
            rw [show M.getD i [] = M[i] by simp [show i < M.length by omega]] at this
            rw [this]; rfl
          generalize M.getD j [] = oj at *
          generalize hz : oj.getD 0 0 = z at *
          by_cases hz0 : z = 0
          · subst hz0
            have hze : ((0 : Int) == 0) = true := rfl
            cases hq : chainB l oj true with
            | true =>
              have HSS := HST (by rw [hq]; rfl)
              rw [hq] at HCj
              clear hq hojl hrow hoj HST HNF hz
              go_wp2_with (fail)
              refine wp_region_low (hC) (by kernel_rfl) (by kernel_rfl) ?_
              repeat (first
                | go_big_quiet_skip
                | (go_big_quiet_want
                   apply Exists.intro
                   refine And.intro (fun W hW => ?_) ?_
                   · (obtain ⟨c0, c1, _⟩ := (HCC W hW).out; obtain ⟨p3, p4⟩ := (HCA W hW).out)
                     go_simp
                     first
                       | exact rfl
                       | ((refine (HCj W hbo (HRR W hW).out (hrj W hW).out).out.mono ?_; rintro e w4 ⟨rfl, hb4⟩; exact ⟨rfl, bl_call hW hb4⟩))
                   try go_simp
                   go_big_quiet_on))
              refine wpQuiet_nil ?_
              intro w9 hb9
              obtain ⟨p9, p8⟩ := (HCA _ hb9).out
              go_wp2_with (fail)
              go_ret3
              rw [HSS.out]
              exact ⟨some ⟨b4, o4, none⟩, cj, rfl, own_call hown hb9, bl_call hbw hb9⟩
            | false =>
              have HN2 := HNF (by rw [hq]; rfl)
              rw [hq] at HCj
              clear hq hojl hrow hoj HST HNF hz
              go_wp2_with (fail)
              refine wp_region_low (hC) (by kernel_rfl) (by kernel_rfl) ?_
              repeat (first
                | go_big_quiet_skip
                | (go_big_quiet_want
                   apply Exists.intro
                   refine And.intro (fun W hW => ?_) ?_
                   · (obtain ⟨c0, c1, _⟩ := (HCC W hW).out; obtain ⟨p3, p4⟩ := (HCA W hW).out)
                     go_simp
                     first
                       | exact rfl
                       | ((refine (HCj W hbo (HRR W hW).out (hrj W hW).out).out.mono ?_; rintro e w4 ⟨rfl, hb4⟩; exact ⟨rfl, bl_call hW hb4⟩))
                   try go_simp
                   go_big_quiet_on))
              refine wpQuiet_nil ?_
              intro w9 hb9
              go_wp2_with (fail)
              go_roundg gi
              case rel => exact ⟨j + 1, by have h := HJ.out; show _ = _; omega, by go_num, HN2, bl_call hb hb9⟩
              case measure => omega
          · have hze : (z == 0) = false := by simpa using hz0
            have hzd : decide (z = 0) = false := by simpa using hz0
            have HN2 := HNF (by rw [hzd]; rfl)
            clear hojl hrow hoj HST HNF hz hz0
            go_wp2_with (fail)
            go_quiet (fail)
            go_wp2_with (fail)
            go_roundg gi
            case rel => exact ⟨j + 1, by have h := HJ.out; show _ = _; omega, by go_num, HN2, below_drewN hb _⟩
            case measure => omega
    · have hG : rringO n l = none := by rw [rringO, if_pos ht, if_neg h3]
      have hn3 : (n : Int) < 3 := by omega
      rw [hG, ht]
      rw [ht] at HV
      clear hG ht
      go_enter Try.func48, Try.ntmps48
      go_wp2_with (fail)
      refine HV.out.mono ?_
      rintro e w1 ⟨rfl, hb1⟩
      clear c0 c1
      obtain ⟨c0, c1, _⟩ := (x0.call hb1).two
      go_wp2_with (fail)
      go_ret3
      exact ⟨none, 0, rfl, World.ownsRow_nil _ _ _ _, bl_call hb0 hb1⟩
  · have hG : rringO Z l = none := by rw [rringO, if_neg ht]
    rw [hG]
    clear hG
    generalize trapE Z l = te at *
    go_enter Try.func48, Try.ntmps48
    go_wp2_with (fail)
    refine HV.out.mono ?_
    rintro e w1 ⟨rfl, hb1⟩
    go_wp2_with (fail)
    go_ret3
    exact ⟨none, 0, rfl, World.ownsRow_nil _ _ _ _, bl_call hb0 hb1⟩
end Go.Proofs.Ytjgpfnnokdcgoaa

/- Chains, orders and walks: what is true of all of them. -/
namespace Go.Proofs.Ytjgpfnnokdcgoaa
open Go.RowKit Go.Maps

theorem cons_erase_perm : ∀ (l : List Int) (i : Nat) (h : i < l.length), (l[i] :: l.eraseIdx i).Perm l
  | [], i, h => absurd h (by simp)
  | x :: t, 0, _ => List.Perm.refl _
  | x :: t, i + 1, h => (List.Perm.swap _ _ _).trans ((cons_erase_perm t i (by simpa using h)).cons x)
theorem ordersL_perm : ∀ (k : Nat) (l o : List Int), l.length = k → (o ∈ ordersL k l ↔ o.Perm l)
  | 0, l, o, h => by
    rw [ordersL, List.mem_singleton]
    have : l = [] := List.length_eq_zero_iff.1 h
    subst this; simp
  | k + 1, l, o, h => by
    rw [ordersL, List.mem_flatMap]
    constructor
    · rintro ⟨i, hi, ho⟩
      obtain ⟨o', ho', rfl⟩ := List.mem_map.1 ho
      rw [List.mem_range] at hi
      have := (ordersL_perm k _ o' (by rw [List.length_eraseIdx_of_lt hi]; omega)).1 ho'
      have e : l.getD i 0 = l[i] := by simp [hi]
      rw [e]
      exact (this.cons _).trans (cons_erase_perm l i hi)
    · intro hp
      rcases o with _ | ⟨x, t⟩
      · have := hp.length_eq; simp [h] at this
      · have hx : x ∈ l := hp.subset List.mem_cons_self
        obtain ⟨i, hi, rfl⟩ := List.mem_iff_getElem.1 hx
        refine ⟨i, List.mem_range.2 hi, List.mem_map.2 ⟨t, ?_, by simp [hi]⟩⟩
        rw [ordersL_perm k _ t (by rw [List.length_eraseIdx_of_lt hi]; omega)]
        exact (hp.trans (cons_erase_perm l i hi).symm).cons_inv

/-- The orders lie in the order of their first numbers. -/
theorem ordersL_one : ∀ (k : Nat) (l : List Int), l.Pairwise (· < ·) → (ordersL k l).Pairwise fun o o' => o.getD 0 0 ≤ o'.getD 0 0
  | 0, _, _ => by simp [ordersL]
  | k + 1, l, h => by
    rw [ordersL, List.pairwise_flatMap]
    refine ⟨fun i _ => ?_, ?_⟩
    · rw [List.pairwise_map]
      exact List.Pairwise.imp (R := fun _ _ => True) (by intros; simp) (List.pairwise_of_forall (by simp))
    · refine List.Pairwise.imp_of_mem (R := (· < ·)) ?_ List.pairwise_lt_range
      intro i j hi hj hij x hx y hy
      rw [List.mem_range] at hi hj
      obtain ⟨a, _, rfl⟩ := List.mem_map.1 hx
      obtain ⟨b, _, rfl⟩ := List.mem_map.1 hy
      have := List.pairwise_iff_getElem.1 h i j hi hj hij
      simp [hi, hj]; omega
/-- They lie in the order of their second numbers, where the first are the same. -/
theorem ordersL_two : ∀ (k : Nat) (l : List Int), l.Pairwise (· < ·) → (ordersL k l).Pairwise fun o o' => o.getD 0 0 < o'.getD 0 0 ∨ (o.getD 0 0 = o'.getD 0 0 ∧ o.getD 1 0 ≤ o'.getD 1 0)
  | 0, _, _ => by simp [ordersL]
  | k + 1, l, h => by
    rw [ordersL, List.pairwise_flatMap]
    refine ⟨fun i _ => ?_, ?_⟩
    · rw [List.pairwise_map]
      refine List.Pairwise.imp ?_ (ordersL_one k (l.eraseIdx i) (h.sublist (List.eraseIdx_sublist _ _)))
      intro a b hab
      right
      simpa using hab
    · refine List.Pairwise.imp_of_mem (R := (· < ·)) ?_ List.pairwise_lt_range
      intro i j hi hj hij x hx y hy
      rw [List.mem_range] at hi hj
      obtain ⟨a, _, rfl⟩ := List.mem_map.1 hx
      obtain ⟨b, _, rfl⟩ := List.mem_map.1 hy
      have := List.pairwise_iff_getElem.1 h i j hi hj hij
      left
      simp [hi, hj]; omega
theorem numbL_sorted (n : Nat) : (numbL n).Pairwise (· < ·) := by
  rw [numbL, List.pairwise_map]
  exact List.Pairwise.imp (by intro a b h; omega) List.pairwise_lt_range
/-- What is found is an order, and the first of all that would do. -/
theorem chainF_some {n : Nat} {f : List Int → Bool} {o : List Int} (h : chainF n f = some o) : o.Perm (numbL n) ∧ f o = true ∧ ∀ o', o'.Perm (numbL n) → f o' = true → o.getD 0 0 < o'.getD 0 0 ∨ (o.getD 0 0 = o'.getD 0 0 ∧ o.getD 1 0 ≤ o'.getD 1 0) := by
  rw [chainF] at h
  refine ⟨(ordersL_perm n _ o (numbL_len n)).1 (List.mem_of_find?_eq_some h), List.find?_some h, fun o' hp hf => ?_⟩
  have hm := (ordersL_perm n _ o' (numbL_len n)).2 hp
  obtain ⟨_, q1, q2, e, hn⟩ := List.find?_eq_some_iff_append.1 h
  have hw := ordersL_two n _ (numbL_sorted n)
  rw [e, List.pairwise_append] at hw
  rw [e, List.mem_append, List.mem_cons] at hm
  rcases hm with hm | rfl | hm
  · have := hn o' hm; rw [hf] at this; simp at this
  · right; exact ⟨rfl, Int.le_refl _⟩
  · exact (List.pairwise_cons.1 hw.2.1).1 o' hm
theorem chainF_none {n : Nat} {f : List Int → Bool} (h : chainF n f = none) (o : List Int) (hp : o.Perm (numbL n)) : f o = false := by
  rw [chainF, List.find?_eq_none] at h
  have := h o ((ordersL_perm n _ o (numbL_len n)).2 hp)
  simpa using this
/-- The first number of an ascending row that will do. -/
theorem upTo_find {f p : Int → Bool} {y : Int} (h0 : 0 ≤ y) (hf : f y = true) (hp : p y = true) (hn : ∀ x, 0 ≤ x → x < y → f x = true → p x = false) : ∀ k : Nat, y < k → (upTo f k).find? p = some y
  | 0, h => by omega
  | k + 1, h => by
    by_cases e : y = k
    · subst e
      have hno : (upTo f k).find? p = none := by
        rw [List.find?_eq_none]
        intro x hx
        obtain ⟨a, b, c⟩ := (upTo_mem f k x).1 hx
        rw [hn x a b c]; simp
      rw [upTo, if_pos hf, List.find?_append, hno]
      simp [hp]
    · have ih := upTo_find h0 hf hp hn k (by omega)
      rw [upTo]; split
      · rw [List.find?_append, ih]; rfl
      · exact ih
theorem upTo_none {f p : Int → Bool} {k : Nat} (h : ∀ x : Int, 0 ≤ x → x < (k : Int) → f x = true → p x = false) : (upTo f k).find? p = none := by
  rw [List.find?_eq_none]
  intro x hx
  obtain ⟨a, b, c⟩ := (upTo_mem f k x).1 hx
  rw [h x a b c]; simp
theorem keyL_inj {a b c d : Int} (h : keyL a b = keyL c d) : (a = c ∧ b = d) ∨ (a = d ∧ b = c) := by
  rw [keyL, keyL, Prod.mk.injEq] at h
  omega
/-- The pairs of places that are neighbors. -/
def pairsN (n : Nat) (round : Bool) : List (Nat × Nat) := (List.range (n - 1)).map (fun k => (k, k + 1)) ++ (if round then [(0, n - 1)] else [])
theorem pairsN_in {n : Nat} {round : Bool} {i k : Nat} : (k, i) ∈ pairsN n round ↔ (k < n - 1 ∧ k + 1 = i) ∨ (round = true ∧ k = 0 ∧ i = n - 1) := by
  rw [pairsN, List.mem_append, List.mem_map]
  constructor
  · rintro (⟨a, ha, he⟩ | hx)
    · rw [List.mem_range] at ha; rw [Prod.mk.injEq] at he; left; omega
    · right
      cases round
      · simp at hx
      · simpa using hx
  · rintro (⟨h1, h2⟩ | ⟨h1, h2, h3⟩)
    · exact .inl ⟨k, List.mem_range.2 h1, by rw [h2]⟩
    · subst h1 h2 h3; right; simp
theorem pairsN_mem {n : Nat} {round : Bool} {i k : Nat} (hk : k < i) (hi : i < n) : nbrB n round i k = true ↔ (k, i) ∈ pairsN n round := by
  rw [nbrB, pairsN_in, Bool.or_eq_true, Bool.and_eq_true, Bool.and_eq_true, decide_eq_true_iff, decide_eq_true_iff, decide_eq_true_iff]
  constructor
  · rintro (h | ⟨h1, h2, h4⟩)
    · left; omega
    · right; exact ⟨h1, h2, by omega⟩
  · rintro (h | ⟨h1, h2, h4⟩)
    · left; omega
    · right; exact ⟨h1, h2, by omega⟩
theorem pairsN_ok {n : Nat} {round : Bool} (h3 : round = true → 3 ≤ n) : ∀ x ∈ pairsN n round, x.1 < x.2 ∧ x.2 < n := by
  rintro ⟨k, i⟩ hx
  show k < i ∧ i < n
  rcases pairsN_in.1 hx with h | ⟨h1, h2, h4⟩
  · omega
  · have := h3 h1; omega
theorem pairsN_nod {n : Nat} {round : Bool} (h3 : round = true → 3 ≤ n) : (pairsN n round).Nodup := by
  have hr : ((List.range (n - 1)).map (fun k => (k, k + 1))).Nodup := by
    rw [List.Nodup, List.pairwise_map]
    exact List.Pairwise.imp (by intro a b h; simp; omega) List.pairwise_lt_range
  rw [pairsN]
  cases round
  · simpa using hr
  · have := h3 rfl
    rw [List.nodup_append]
    refine ⟨hr, by simp, ?_⟩
    intro x hx y hy
    simp at hx hy
    obtain ⟨a, ha, rfl⟩ := hx
    subst hy
    simp; omega
theorem pairsN_len {n : Nat} {round : Bool} : (pairsN n round).length = n - 1 + (if round then 1 else 0) := by
  rw [pairsN, List.length_append, List.length_map, List.length_range]
  cases round <;> rfl

/-- The keys of pairs of places. -/
def keysN (o : List Int) (P : List (Nat × Nat)) : List (Int × Int) := P.map fun x => keyL (o.getD x.1 0) (o.getD x.2 0)
theorem nod_at {o : List Int} (h : o.Nodup) {i j : Nat} (hi : i < o.length) (hj : j < o.length) (e : o.getD i 0 = o.getD j 0) : i = j := by
  have e' : o[i] = o[j] := by simpa [hi, hj] using e
  rcases Nat.lt_trichotomy i j with h' | h' | h'
  · exact absurd e' (List.pairwise_iff_getElem.1 h i j hi hj h')
  · exact h'
  · exact absurd e'.symm (List.pairwise_iff_getElem.1 h j i hj hi h')
theorem keysN_nod {o : List Int} {P : List (Nat × Nat)} (ho : o.Nodup) (hP : P.Nodup) (hl : ∀ x ∈ P, x.1 < x.2 ∧ x.2 < o.length) : (keysN o P).Nodup := by
  rw [keysN, List.Nodup, List.pairwise_map]
  refine List.Pairwise.imp_of_mem ?_ hP
  rintro ⟨a, b⟩ ⟨c, d⟩ hx hy hne he
  obtain ⟨x1, x2⟩ := hl _ hx
  obtain ⟨y1, y2⟩ := hl _ hy
  simp only at x1 x2 y1 y2 he
  rcases keyL_inj he with ⟨e1, e2⟩ | ⟨e1, e2⟩
  · exact hne (Prod.ext (nod_at ho (by omega) (by omega) e1) (nod_at ho (by omega) (by omega) e2))
  · have := nod_at ho (by omega) (by omega) e1
    have := nod_at ho (by omega) (by omega) e2
    omega
theorem perm_numb {n : Nat} {o : List Int} (h : o.Perm (numbL n)) : o.length = n ∧ o.Nodup ∧ ∀ x : Int, x ∈ o ↔ 0 ≤ x ∧ x < (n : Int) := by
  refine ⟨by rw [h.length_eq, numbL_len], ?_, fun x => ?_⟩
  · rw [h.nodup_iff]
    exact List.Pairwise.imp (by intro a b h; omega) (numbL_sorted n)
  · rw [h.mem_iff, numbL, List.mem_map]
    constructor
    · rintro ⟨a, ha, rfl⟩; rw [List.mem_range] at ha; omega
    · rintro ⟨h0, h1⟩; exact ⟨x.toNat, by rw [List.mem_range]; omega, by omega⟩
/-- Every link is the key of two places, in their order. -/
theorem link_at {n : Nat} {l : List (Int × Int)} {o : List Int} (ht : trapE n l = 0) (h : o.Perm (numbL n)) {x : Int × Int} (hx : x ∈ l) : ∃ k i, k < i ∧ i < n ∧ keyL (o.getD k 0) (o.getD i 0) = x := by
  obtain ⟨hlen, hnod, hmem⟩ := perm_numb h
  obtain ⟨h0, h1, h2⟩ := (trapE_zero ht).2.1 x hx
  obtain ⟨a, ha, ea⟩ := List.mem_iff_getElem.1 ((hmem x.1).2 ⟨h0, by omega⟩)
  obtain ⟨b, hb, eb⟩ := List.mem_iff_getElem.1 ((hmem x.2).2 ⟨by omega, h2⟩)
  have ea' : o.getD a 0 = x.1 := by simp [ha, ea]
  have eb' : o.getD b 0 = x.2 := by simp [hb, eb]
  rcases Nat.lt_trichotomy a b with h' | h' | h'
  · refine ⟨a, b, h', by omega, ?_⟩
    rw [ea', eb', keyL]
    exact Prod.ext (by simp; omega) (by simp; omega)
  · subst h'; omega
  · refine ⟨b, a, h', by omega, ?_⟩
    rw [ea', eb', keyL]
    exact Prod.ext (by simp; omega) (by simp; omega)
theorem chain_keys {n : Nat} {l : List (Int × Int)} {o : List Int} {round : Bool} (ht : trapE n l = 0) (h : o.Perm (numbL n)) (h3 : round = true → 3 ≤ n) :
    chainB l o round = true ↔ (∀ x ∈ pairsN n round, linkB l (o.getD x.1 0) (o.getD x.2 0) = true) ∧ l.length = (pairsN n round).length := by
  obtain ⟨hlen, hnod, hmem⟩ := perm_numb h
  have hok := pairsN_ok h3
  have hkn := keysN_nod hnod (pairsN_nod h3) (by rw [hlen]; exact hok)
  have hkl : (keysN o (pairsN n round)).length = (pairsN n round).length := by simp [keysN]
  have hln := (trapE_zero ht).2.2
  rw [chainB_iff, hlen]
  constructor
  · intro hc
    have hall : ∀ x ∈ pairsN n round, linkB l (o.getD x.1 0) (o.getD x.2 0) = true := by
      rintro ⟨k, i⟩ hx
      obtain ⟨h1, h2⟩ := hok _ hx
      rw [hc i h2 k h1]
      exact (pairsN_mem h1 h2).2 hx
    refine ⟨hall, ?_⟩
    rw [← hkl]
    refine Nat.le_antisymm (nodup_sub hln fun x hx => ?_) (nodup_sub hkn fun x hx => ?_)
    · obtain ⟨k, i, h1, h2, rfl⟩ := link_at ht h hx
      have : linkB l (o.getD k 0) (o.getD i 0) = true := by rw [linkB]; simpa using hx
      rw [hc i h2 k h1] at this
      exact List.mem_map.2 ⟨(k, i), (pairsN_mem h1 h2).1 this, rfl⟩
    · obtain ⟨y, hy, rfl⟩ := List.mem_map.1 hx
      have := hall y hy
      rw [linkB] at this; simpa using this
  · rintro ⟨hall, hL⟩ i hi k hk
    have hsub : ∀ x ∈ keysN o (pairsN n round), x ∈ l := by
      intro x hx
      obtain ⟨y, hy, rfl⟩ := List.mem_map.1 hx
      have := hall y hy
      rw [linkB] at this; simpa using this
    rw [Bool.eq_iff_iff, pairsN_mem hk hi]
    constructor
    · intro hq
      have hq : keyL (o.getD k 0) (o.getD i 0) ∈ l := by rw [linkB] at hq; simpa using hq
      have hin : keyL (o.getD k 0) (o.getD i 0) ∈ keysN o (pairsN n round) := by
        refine Classical.byContradiction fun hno => ?_
        have := nodup_sub (l := keyL (o.getD k 0) (o.getD i 0) :: keysN o (pairsN n round)) (m := l) (List.nodup_cons.2 ⟨hno, hkn⟩) (by
          intro x hx
          rcases List.mem_cons.1 hx with rfl | hx
          · exact hq
          · exact hsub x hx)
        rw [List.length_cons] at this
        omega
      obtain ⟨⟨a, b⟩, hy, he⟩ := List.mem_map.1 hin
      obtain ⟨h1, h2⟩ := hok _ hy
      simp only at h1 h2 he
      rcases keyL_inj he with ⟨e1, e2⟩ | ⟨e1, e2⟩
      · have := nod_at hnod (by omega) (by omega) e1
        have := nod_at hnod (by omega) (by omega) e2
        subst_vars; exact hy
      · have := nod_at hnod (by omega) (by omega) e1
        have := nod_at hnod (by omega) (by omega) e2
        omega
    · intro hq; exact hall _ hq
theorem link_self {n : Nat} {l : List (Int × Int)} (ht : trapE n l = 0) (a : Int) : linkB l a a = false := by
  rw [linkB, decide_eq_false_iff_not]
  intro h
  have := (trapE_zero ht).2.1 _ h
  rw [keyL] at this
  simp only at this
  omega
/-- The links of a chain. -/
theorem chain_link {n : Nat} {l : List (Int × Int)} {o : List Int} {round : Bool} (ht : trapE n l = 0) (h : o.Perm (numbL n)) (h3 : round = true → 3 ≤ n) (hc : chainB l o round = true) {i j : Nat} (hi : i < n) (hj : j < n) :
    linkB l (o.getD i 0) (o.getD j 0) = true ↔ i + 1 = j ∨ j + 1 = i ∨ (round = true ∧ ((i = 0 ∧ j = n - 1) ∨ (j = 0 ∧ i = n - 1))) := by
  have hlen := (perm_numb h).1
  have hq := chainB_iff.1 hc
  rw [hlen] at hq
  rcases Nat.lt_trichotomy i j with h' | h' | h'
  · rw [hq j hj i h', pairsN_mem h' hj, pairsN_in]
    constructor
    · rintro (a | ⟨a, b⟩)
      · exact .inl a.2
      · exact .inr (.inr ⟨a, .inl b⟩)
    · rintro (a | a | ⟨a, b⟩)
      · left; omega
      · omega
      · right; exact ⟨a, by omega⟩
  · subst h'
    rw [link_self ht]
    constructor
    · simp
    · rintro (a | a | ⟨a, b⟩)
      · omega
      · omega
      · have := h3 a; omega
  · rw [linkB_comm, hq i hi j h', pairsN_mem h' hi, pairsN_in]
    constructor
    · rintro (a | ⟨a, b⟩)
      · exact .inr (.inl a.2)
      · exact .inr (.inr ⟨a, .inr b⟩)
    · rintro (a | a | ⟨a, b⟩)
      · omega
      · left; omega
      · right; exact ⟨a, by omega⟩
theorem take_on {o : List Int} {i : Nat} (hi : i < o.length) : o.take i ++ [o.getD i 0] = o.take (i + 1) := by
  rw [List.take_add_one]; simp [hi]
theorem take_mem {o : List Int} (ho : o.Nodup) {i j : Nat} (hj : j < o.length) : o.getD j 0 ∈ o.take i ↔ j < i := by
  constructor
  · intro hm
    obtain ⟨a, ha, he⟩ := List.mem_iff_getElem.1 hm
    rw [List.getElem_take] at he
    rw [List.length_take] at ha
    have := nod_at ho (i := a) (j := j) (by omega) hj (by rw [← he]; simp [show a < o.length by omega])
    omega
  · intro hlt
    refine List.mem_iff_getElem.2 ⟨j, by rw [List.length_take]; omega, ?_⟩
    rw [List.getElem_take]; simp [hj]
/-- The walk from the first zone of a chain is the chain. -/
theorem walk_chain {n : Nat} {l : List (Int × Int)} {o : List Int} {round : Bool} (ht : trapE n l = 0) (h : o.Perm (numbL n)) (h3 : round = true → 3 ≤ n) (hc : chainB l o round = true) (hd : round = true → o.getD 1 0 < o.getD (n - 1) 0) :
    ∀ k i, i < n → n ≤ i + 1 + k → walkTo l n k (o.take i) (o.getD i 0) = o
  | 0, i, hi, hk => by
    obtain ⟨hlen, -, -⟩ := perm_numb h
    rw [walkTo, take_on (by omega), List.take_of_length_le (by omega)]
  | k + 1, i, hi, hk => by
    obtain ⟨hlen, hnod, hmem⟩ := perm_numb h
    rw [walkTo, take_on (by omega)]
    by_cases he : i + 1 < n
    · have hy := (hmem (o.getD (i + 1) 0)).1 (by simp [show i + 1 < o.length by omega])
      have hf : (nearL l (o.getD i 0) n).find? (fun y => !(o.take (i + 1)).contains y) = some (o.getD (i + 1) 0) := by
        refine upTo_find hy.1 ((chain_link ht h h3 hc hi he).2 (.inl rfl)) ?_ ?_ n hy.2
        · have := mt (take_mem hnod (i := i + 1) (show i + 1 < o.length by omega)).1 (by omega)
          simpa using this
        · intro x hx0 hx1 hl
          obtain ⟨j, hj, ej⟩ := List.mem_iff_getElem.1 ((hmem x).2 ⟨hx0, by omega⟩)
          have ej : o.getD j 0 = x := by simp [hj, ej]
          subst ej
          have hm : o.getD j 0 ∈ o.take (i + 1) := by
            rw [take_mem hnod hj]
            rcases (chain_link ht h h3 hc hi (by omega)).1 hl with a | a | ⟨a, ⟨b1, b2⟩ | ⟨b1, b2⟩⟩
            · subst a; omega
            · omega
            · subst b1 b2
              have := hd a
              simp only [Nat.zero_add] at hx1
              omega
            · omega
          simpa using hm
      rw [hf]
      exact walk_chain ht h h3 hc hd k (i + 1) he (by omega)
    · have hf : (nearL l (o.getD i 0) n).find? (fun y => !(o.take (i + 1)).contains y) = none := by
        refine upTo_none ?_
        intro x hx0 hx1 hl
        have hx := (hmem x).2 ⟨hx0, hx1⟩
        rw [List.take_of_length_le (by omega)]
        simpa using hx
      rw [hf, List.take_of_length_le (by omega)]
theorem getD_app {a b : List Int} {i : Nat} (h : i < a.length) : (a ++ b).getD i 0 = a.getD i 0 := by
  have : i < a.length + b.length := by omega
  simp [List.getElem?_append, h]
/-- What is true of a walk: its zones are zones, each once, and neighbors are near. -/
structure WalkQ (l : List (Int × Int)) (n : Nat) (o : List Int) : Prop where
  nod : o.Nodup
  inn : ∀ x ∈ o, 0 ≤ x ∧ x < (n : Int)
  lnk : ∀ i, i + 1 < o.length → linkB l (o.getD i 0) (o.getD (i + 1) 0) = true
theorem walkTo_q {l : List (Int × Int)} {n : Nat} : ∀ (k : Nat) (o : List Int) (z : Int), WalkQ l n (o ++ [z]) → WalkQ l n (walkTo l n k o z) ∧ (walkTo l n k o z).getD 0 0 = (o ++ [z]).getD 0 0
  | 0, o, z, h => ⟨h, rfl⟩
  | k + 1, o, z, h => by
    rw [walkTo]
    split
    · rename_i y hf
      have hp := List.find?_some hf
      obtain ⟨y0, y1, y2⟩ := (upTo_mem _ _ _).1 (List.mem_of_find?_eq_some hf)
      have hp : y ∉ o ++ [z] := by simpa using hp
      have hq : WalkQ l n ((o ++ [z]) ++ [y]) := by
        refine ⟨?_, ?_, ?_⟩
        · rw [List.nodup_append]
          refine ⟨h.nod, by simp, fun a ha b hb => ?_⟩
          rw [List.mem_singleton.1 hb]
          rintro rfl
          exact hp ha
        · intro x hx
          rcases List.mem_append.1 hx with hx | hx
          · exact h.inn x hx
          · rw [List.mem_singleton.1 hx]; exact ⟨y0, y1⟩
        · intro i hi
          rw [List.length_append, List.length_singleton] at hi
          by_cases e : i + 1 < (o ++ [z]).length
          · have := h.lnk i e
            rwa [getD_app (by omega), getD_app e]
          · have ho : i = o.length := by rw [List.length_append, List.length_singleton] at hi e; omega
            subst ho
            simpa using y2
      obtain ⟨a, b⟩ := walkTo_q k (o ++ [z]) y hq
      refine ⟨a, b.trans ?_⟩
      rw [getD_app (by simp)]
    · exact ⟨h, rfl⟩
theorem walkL_q {l : List (Int × Int)} {n z : Nat} (hz : z < n) : WalkQ l n (walkL l n z) ∧ (walkL l n z).getD 0 0 = (z : Int) := by
  refine walkTo_q 5 [] z ⟨by simp, fun x hx => ?_, fun i hi => by simp at hi⟩
  rw [List.nil_append, List.mem_singleton] at hx
  omega
theorem WalkQ.full {l : List (Int × Int)} {n : Nat} {o : List Int} (h : WalkQ l n o) (hn : o.length = n) : o.Perm (numbL n) := by
  have hN : (numbL n).Nodup := List.Pairwise.imp (by intro a b h; omega) (numbL_sorted n)
  have hI : ∀ x : Int, x ∈ numbL n ↔ 0 ≤ x ∧ x < (n : Int) := (perm_numb (List.Perm.refl _)).2.2
  rw [List.perm_ext_iff_of_nodup h.nod hN]
  intro x
  constructor
  · intro hx; exact (hI x).2 (h.inn x hx)
  · intro hx
    refine Classical.byContradiction fun hno => ?_
    have := nodup_sub (l := x :: o) (m := numbL n) (List.nodup_cons.2 ⟨hno, h.nod⟩) (by
      intro y hy
      rcases List.mem_cons.1 hy with rfl | hy
      · exact hx
      · exact (hI y).2 (h.inn y hy))
    rw [List.length_cons, numbL_len] at this
    omega
end Go.Proofs.Ytjgpfnnokdcgoaa

/- The lines and rings of the program are those of the specification. -/
namespace Go.Proofs.Ytjgpfnnokdcgoaa
open Go.RowKit Go.Maps

theorem chain_len {n : Nat} {l : List (Int × Int)} {o : List Int} (ht : trapE n l = 0) (h1 : 1 ≤ n) (h : o.Perm (numbL n)) {round : Bool} (h3 : round = true → 3 ≤ n) (hc : chainB l o round = true) : l.length + (if round then 0 else 1) = n := by
  have := ((chain_keys ht h h3).1 hc).2
  rw [pairsN_len] at this
  cases round <;> simp at this ⊢ <;> omega
/-- A walk through all zones is a chain, where there are just so many links. -/
theorem full_chain {n z : Nat} {l : List (Int × Int)} (ht : trapE n l = 0) (hz : z < n) (hw : (walkL l n z).length = n) (hl : l.length + 1 = n) : (walkL l n z).Perm (numbL n) ∧ chainB l (walkL l n z) false = true := by
  obtain ⟨hq, -⟩ := walkL_q (l := l) hz
  refine ⟨hq.full hw, (chain_keys ht (hq.full hw) (by simp)).2 ⟨?_, ?_⟩⟩
  · rintro ⟨k, i⟩ hx
    rcases pairsN_in.1 hx with ⟨h1, h2⟩ | ⟨h1, -⟩
    · subst h2; exact hq.lnk k (by omega)
    · simp at h1
  · rw [pairsN_len]; simp; omega
theorem full_ring {n : Nat} {l : List (Int × Int)} (ht : trapE n l = 0) (h3 : 3 ≤ n) (hw : (walkL l n 0).length = n) (hl : l.length = n) (hk : linkB l 0 ((walkL l n 0).getD (n - 1) 0) = true) : (walkL l n 0).Perm (numbL n) ∧ chainB l (walkL l n 0) true = true := by
  obtain ⟨hq, h0⟩ : WalkQ l n (walkL l n 0) ∧ (walkL l n 0).getD 0 0 = 0 := walkL_q (z := 0) (by omega)
  refine ⟨hq.full hw, (chain_keys ht (hq.full hw) (fun _ => h3)).2 ⟨?_, ?_⟩⟩
  · rintro ⟨k, i⟩ hx
    rcases pairsN_in.1 hx with ⟨h1, h2⟩ | ⟨h1, h2, h4⟩
    · subst h2; exact hq.lnk k (by omega)
    · subst h2 h4
      show linkB l ((walkL l n 0).getD 0 0) _ = true
      have h0' : (walkL l n 0).getD 0 0 = 0 := h0
      rw [h0']
      exact hk
  · rw [pairsN_len]; simp; omega
theorem lineO_eq {n : Nat} {l : List (Int × Int)} (ht : trapE n l = 0) (h1 : 1 ≤ n) (h6 : n ≤ 6) : (match chainF n (fun o => chainB l o false) with | some o => lnL l n = o ∧ o ≠ [] | none => lnL l n = []) := by
  cases h : chainF n (fun o => chainB l o false) with
  | none =>
    show lnL l n = []
    have hn := chainF_none h
    rw [lnL]
    split
    · rename_i hl
      cases hs : lineS l n with
      | none => rfl
      | some z =>
        rw [lineS] at hs
        have hz := List.mem_range.1 (List.mem_of_find?_eq_some hs)
        have hw := List.find?_some hs
        obtain ⟨a, b⟩ := full_chain ht hz (by simpa using hw) hl
        have := hn _ a
        rw [b] at this; simp at this
    · rfl
  | some o =>
    show lnL l n = o ∧ o ≠ []
    obtain ⟨hp, hc, hm⟩ := chainF_some h
    have hl := chain_len ht h1 hp (by simp) hc
    simp at hl
    obtain ⟨hlen, hnod, hmem⟩ := perm_numb hp
    obtain ⟨g0, g1⟩ := (hmem (o.getD 0 0)).1 (by simp [show 0 < o.length by omega])
    obtain ⟨z, hz⟩ : ∃ z : Nat, o.getD 0 0 = (z : Int) := ⟨(o.getD 0 0).toNat, by omega⟩
    have hzn : z < n := by omega
    have hw : walkL l n z = o := by
      have := walk_chain ht hp (by simp) hc (by simp) 5 0 (by omega) (by omega)
      rwa [hz, List.take_zero] at this
    refine ⟨?_, by rintro rfl; simp at hlen; omega⟩
    rw [lnL, if_pos hl]
    cases hs : lineS l n with
    | none =>
      rw [lineS, List.find?_eq_none] at hs
      have := hs z (List.mem_range.2 hzn)
      rw [hw] at this
      simp [hlen] at this
    | some y =>
      have hs' := hs
      rw [lineS] at hs'
      have hy := List.mem_range.1 (List.mem_of_find?_eq_some hs')
      have hfw := List.find?_some hs'
      obtain ⟨a, b⟩ := full_chain ht hy (by simpa using hfw) hl
      have hle := hm _ a b
      rw [(walkL_q hy).2, hz] at hle
      obtain ⟨_, i, hi, hei, hno⟩ := List.find?_eq_some_iff_getElem.1 hs'
      simp at hei
      subst hei
      have hge : i ≤ z := by
        refine Nat.le_of_not_lt fun hlt => ?_
        have := hno z (by simpa using hlt)
        simp [hw, hlen] at this
      have : i = z := by omega
      subst this
      exact hw
theorem ringO_eq {n : Nat} {l : List (Int × Int)} (ht : trapE n l = 0) (h3 : 3 ≤ n) (h6 : n ≤ 6) : (match chainF n (fun o => decide (o.getD 0 0 = 0) && chainB l o true) with | some o => rgL l n = o ∧ o ≠ [] | none => rgL l n = []) := by
  cases h : chainF n (fun o => decide (o.getD 0 0 = 0) && chainB l o true) with
  | none =>
    show rgL l n = []
    have hn := chainF_none h
    rw [rgL]
    split
    · rename_i hl
      obtain ⟨hl, hw, hk⟩ := hl
      rw [Bool.and_eq_true] at hk
      obtain ⟨a, b⟩ := full_ring ht h3 hw hl hk.2
      have := hn _ a
      have h0 : (walkL l n 0).getD 0 0 = 0 := (walkL_q (l := l) (n := n) (z := 0) (by omega)).2
      rw [b, h0] at this; simp at this
    · rfl
  | some o =>
    show rgL l n = o ∧ o ≠ []
    obtain ⟨hp, hc, hm⟩ := chainF_some h
    rw [Bool.and_eq_true, decide_eq_true_iff] at hc
    obtain ⟨h0, hc⟩ := hc
    have hl := chain_len ht (by omega) hp (fun _ => h3) hc
    simp at hl
    obtain ⟨hlen, hnod, hmem⟩ := perm_numb hp
    have hd : o.getD 1 0 < o.getD (n - 1) 0 := by
      obtain ⟨x, t, rfl⟩ : ∃ x t, o = x :: t := by
        cases o with
        | nil => simp at hlen; omega
        | cons x t => exact ⟨x, t, rfl⟩
      have htl : t.length + 1 = n := by simpa using hlen
      have hat : ∀ i, i < t.length → (x :: t.reverse).getD (i + 1) 0 = (x :: t).getD (n - (i + 1)) 0 := by
        intro i hi
        have e : n - (i + 1) = (t.length - 1 - i) + 1 := by omega
        rw [e]
        have : t.length - 1 - i < t.length := by omega
        simp [hi, this]
      have hp' : (x :: t.reverse).Perm (numbL n) := ((List.reverse_perm t).cons x).trans hp
      have hL := fun {i j : Nat} (hi : i < n) (hj : j < n) => (chain_link (i := i) (j := j) ht hp (fun _ => h3) hc hi hj).2
      have hc' : chainB l (x :: t.reverse) true = true := by
        refine (chain_keys ht hp' (fun _ => h3)).2 ⟨?_, by rw [pairsN_len]; simp; omega⟩
        rintro ⟨k, i⟩ hx
        rcases pairsN_in.1 hx with ⟨q1, q2⟩ | ⟨-, q2, q4⟩
        · subst q2
          show linkB l ((x :: t.reverse).getD k 0) ((x :: t.reverse).getD (k + 1) 0) = true
          rw [hat k (by omega)]
          cases k with
          | zero =>
            have := hL (i := 0) (j := n - 1) (by omega) (by omega) (.inr (.inr ⟨rfl, .inl ⟨rfl, rfl⟩⟩))
            simpa using this
          | succ k =>
            rw [hat k (by omega)]
            exact hL (by omega) (by omega) (.inr (.inl (by omega)))
        · subst q2 q4
          show linkB l ((x :: t.reverse).getD 0 0) ((x :: t.reverse).getD (n - 1) 0) = true
          have := hat (n - 2) (by omega)
          rw [show n - 2 + 1 = n - 1 by omega, show n - (n - 1) = 1 by omega] at this
          rw [this]
          have := hL (i := 0) (j := 1) (by omega) (by omega) (.inl rfl)
          simpa using this
      have hx0 : x = 0 := by simpa using h0
      have hle := hm _ hp' (by rw [hc']; simp [hx0])
      have e1 := hat 0 (by omega)
      rw [e1, show n - (0 + 1) = n - 1 by omega] at hle
      have hne : (x :: t).getD 1 0 ≠ (x :: t).getD (n - 1) 0 := fun e => by
        have := nod_at hnod (i := 1) (j := n - 1) (by omega) (by omega) e
        omega
      rcases hle with hle | ⟨-, hle⟩
      · simp at hle
      · omega
    have hw : walkL l n 0 = o := by
      have := walk_chain ht hp (fun _ => h3) hc (fun _ => hd) 5 0 (by omega) (by omega)
      rwa [h0, List.take_zero] at this
    refine ⟨?_, by rintro rfl; simp at hlen; omega⟩
    have hlast := (hmem (o.getD (n - 1) 0)).1 (by simp [show n - 1 < o.length by omega])
    have hk := (chain_link (i := 0) (j := n - 1) ht hp (fun _ => h3) hc (by omega) (by omega)).2 (.inr (.inr ⟨rfl, .inl ⟨rfl, rfl⟩⟩))
    rw [h0] at hk
    rw [rgL, hw, if_pos]
    refine ⟨hl, hlen, ?_⟩
    rw [hk, Bool.and_true, zoneOk_iff]
    exact hlast
/-- In a chain no zone has three near ones. -/
theorem chain_junc {n : Nat} {l : List (Int × Int)} {o : List Int} {round : Bool} (ht : trapE n l = 0) (h : o.Perm (numbL n)) (h3 : round = true → 3 ≤ n) (hc : chainB l o round = true) : juncTo l n n = [] := by
  rw [List.eq_nil_iff_forall_not_mem]
  intro z hz
  obtain ⟨a, b, hq⟩ := (upTo_mem _ _ _).1 hz
  have hq := of_decide_eq_true hq
  obtain ⟨hlen, hnod, hmem⟩ := perm_numb h
  obtain ⟨i, hi, ei⟩ := List.mem_iff_getElem.1 ((hmem z).2 ⟨a, b⟩)
  have ei : o.getD i 0 = z := by simp [hi, ei]
  subst ei
  have hnn : (nearL l (o.getD i 0) n).Nodup := List.Pairwise.imp (by intro a b h; omega) (upTo_sorted _ n)
  have := nodup_sub (m := [o.getD (if i + 1 = n then 0 else i + 1) 0, o.getD (if i = 0 then n - 1 else i - 1) 0]) hnn fun x hx => by
    obtain ⟨x0, x1, hl⟩ := (upTo_mem _ _ _).1 hx
    obtain ⟨j, hj, ej⟩ := List.mem_iff_getElem.1 ((hmem x).2 ⟨x0, x1⟩)
    have ej : o.getD j 0 = x := by simp [hj, ej]
    subst ej
    rw [List.mem_cons, List.mem_singleton]
    rcases (chain_link ht h h3 hc (by omega) (by omega)).1 hl with e | e | ⟨-, ⟨e1, e2⟩ | ⟨e1, e2⟩⟩
    · left; rw [if_neg (by omega), e]
    · right; rw [if_neg (by omega), show i - 1 = j by omega]
    · right; rw [if_pos e1, e2]
    · left
      by_cases hn : i + 1 = n
      · rw [if_pos hn, e1]
      · exact absurd (show i + 1 = n by omega) hn
  simp only [List.length_cons, List.length_nil] at this
  omega

theorem line_law (Z : Int) (l : List (Int × Int)) : (rlineO Z l).getD [] = lineG Z l ∧ (rlineO Z l).isSome = decide (lineG Z l ≠ []) := by
  rw [rlineO, lineG]
  by_cases ht : trapE Z l = 0
  · obtain ⟨n, rfl, h1, h6⟩ := trap_nat ht
    rw [if_pos ht, if_pos ht]
    have := lineO_eq ht h1 h6
    simp only [Int.toNat_natCast]
    cases h : chainF n (fun o => chainB l o false) with
    | none => rw [h] at this; simp at this ⊢; exact this
    | some o => rw [h] at this; simp at this ⊢; rw [this.1]; exact ⟨rfl, this.2⟩
  · rw [if_neg ht, if_neg ht]; simp
theorem ring_law (Z : Int) (l : List (Int × Int)) : (rringO Z l).getD [] = ringG Z l ∧ (rringO Z l).isSome = decide (ringG Z l ≠ []) := by
  rw [rringO, ringG]
  by_cases ht : trapE Z l = 0
  · obtain ⟨n, rfl, h1, h6⟩ := trap_nat ht
    rw [if_pos ht, if_pos ht]
    simp only [Int.toNat_natCast]
    by_cases h3 : 3 ≤ n
    · rw [if_pos (by omega)]
      have := ringO_eq ht h3 h6
      cases h : chainF n (fun o => decide (o.getD 0 0 = 0) && chainB l o true) with
      | none => rw [h] at this; simp at this ⊢; exact this
      | some o => rw [h] at this; simp at this ⊢; rw [this.1]; exact ⟨rfl, this.2⟩
    · rw [if_neg (by omega)]
      have hr : rgL l n = [] := by
        rw [rgL, if_neg]
        rintro ⟨hl, hw, hk⟩
        have hln := nodup_sub (m := if n = 1 then [] else [((0 : Int), (1 : Int))]) (trapE_zero ht).2.2 fun x hx => by
          have := (trapE_zero ht).2.1 x hx
          rw [if_neg (by omega), List.mem_singleton]
          exact Prod.ext (by simp; omega) (by simp; omega)
        by_cases e : n = 1
        · rw [if_pos e, List.length_nil] at hln; omega
        · rw [if_neg e, List.length_singleton] at hln; omega
      simp [hr]
  · rw [if_neg ht, if_neg ht]; simp
/-- No trap is a line and a ring, and neither has junctions. -/
theorem shape_law (Z : Int) (l : List (Int × Int)) : (lineG Z l = [] ∨ ringG Z l = []) ∧ (lineG Z l ≠ [] → juncG Z l = []) ∧ (ringG Z l ≠ [] → juncG Z l = []) := by
  by_cases ht : trapE Z l = 0
  · obtain ⟨n, rfl, h1, h6⟩ := trap_nat ht
    have hrg : ringG n l ≠ [] → l.length = n := fun h => by
      rw [ringG, if_pos ht, Int.toNat_natCast, rgL] at h
      split at h
      · rename_i h'; exact h'.1
      · exact absurd rfl h
    have hln : lineG n l ≠ [] → l.length + 1 = n := fun h => by
      rw [lineG, if_pos ht, Int.toNat_natCast, lnL] at h
      split at h
      · assumption
      · exact absurd rfl h
    refine ⟨?_, fun h => ?_, fun h => ?_⟩
    · by_cases e : lineG n l = []
      · exact .inl e
      · by_cases e' : ringG n l = []
        · exact .inr e'
        · have := hln e; have := hrg e'; omega
    · have hs := (line_law n l).2
      rw [decide_eq_true h, rlineO, if_pos ht, Int.toNat_natCast] at hs
      obtain ⟨o, ho⟩ := Option.isSome_iff_exists.1 hs
      obtain ⟨hp, hc, -⟩ := chainF_some ho
      rw [juncG, if_pos ht, Int.toNat_natCast]
      exact chain_junc ht hp (by simp) hc
    · have hs := (ring_law n l).2
      rw [decide_eq_true h, rringO, if_pos ht, Int.toNat_natCast] at hs
      split at hs
      · rename_i h3
        obtain ⟨o, ho⟩ := Option.isSome_iff_exists.1 hs
        obtain ⟨hp, hc, -⟩ := chainF_some ho
        rw [Bool.and_eq_true] at hc
        rw [juncG, if_pos ht, Int.toNat_natCast]
        exact chain_junc ht hp (fun _ => by omega) hc.2
      · simp at hs
  · have e1 : lineG Z l = [] := by rw [lineG, if_neg ht]
    have e2 : ringG Z l = [] := by rw [ringG, if_neg ht]
    exact ⟨.inl e1, fun h => absurd e1 h, fun h => absurd e2 h⟩
end Go.Proofs.Ytjgpfnnokdcgoaa

/- The walk of the law on lines, rings and junctions. -/
namespace Go.Proofs.Ytjgpfnnokdcgoaa
open Go.RowKit Go.Maps

theorem walkTo_len (l : List (Int × Int)) (n : Nat) : ∀ (k : Nat) (o : List Int) (z : Int), (walkTo l n k o z).length ≤ o.length + 1 + k
  | 0, o, z => by simp [walkTo]
  | k + 1, o, z => by
    rw [walkTo]
    split
    · rename_i y _
      have := walkTo_len l n k (o ++ [z]) y
      rw [List.length_append, List.length_singleton] at this
      omega
    · simp
theorem lineG_len (Z : Int) (l : List (Int × Int)) : (lineG Z l).length ≤ 6 := by
  rw [lineG]; split
  · rw [lnL]; split
    · cases lineS l Z.toNat with
      | none => simp [lnS]
      | some z => exact walkTo_len l _ 5 [] z
    · simp
  · simp
theorem ringG_len (Z : Int) (l : List (Int × Int)) : (ringG Z l).length ≤ 6 := by
  rw [ringG]; split
  · rw [rgL]; split
    · exact walkTo_len l _ 5 [] 0
    · simp
  · simp
theorem juncG_len (Z : Int) (l : List (Int × Int)) : (juncG Z l).length ≤ 6 := by
  rw [juncG]; split
  · rename_i ht
    obtain ⟨n, rfl, h1, h6⟩ := trap_nat ht
    have := upTo_len (fun z => decide (3 ≤ (nearL l z n).length)) n
    rw [Int.toNat_natCast, juncTo]; omega
  · simp
theorem rLine2_c (Z : Int) (A : Option Addr) (l : List (Int × Int)) (c : Nat) (w : World) (hlen : l.length ≤ 1000) (hr : Rd w A (cellsP l)) :
    Calls Try.prog 46 #[trapV Z A l.length c] w fun e w' => ∃ A' c', e = .returned (.tuple #[.slice A' (lineG Z l).length c', .bool (decide (lineG Z l ≠ [])), .int .i64 (trapE Z l)]) ∧ w'.ownsRow w.heap.size 3 1 (.slice A' (lineG Z l).length c') (lineG Z l).length (ints (lineG Z l)) ∧ Below w.heap.size w w' := by
  have := rLine_c Z A l c w hlen hr
  unfold OutS at this
  rwa [(line_law Z l).1, (line_law Z l).2] at this
theorem rRing2_c (Z : Int) (A : Option Addr) (l : List (Int × Int)) (c : Nat) (w : World) (hlen : l.length ≤ 1000) (hr : Rd w A (cellsP l)) :
    Calls Try.prog 48 #[trapV Z A l.length c] w fun e w' => ∃ A' c', e = .returned (.tuple #[.slice A' (ringG Z l).length c', .bool (decide (ringG Z l ≠ [])), .int .i64 (trapE Z l)]) ∧ w'.ownsRow w.heap.size 3 1 (.slice A' (ringG Z l).length c') (ringG Z l).length (ints (ringG Z l)) ∧ Below w.heap.size w w' := by
  have := rRing_c Z A l c w hlen hr
  unfold OutS at this
  rwa [(ring_law Z l).1, (ring_law Z l).2] at this

set_option maxRecDepth 100000 in
set_option maxHeartbeats 8000000 in
theorem zoneLines_walk (Z : Int) (A : Option Addr) (l : List (Int × Int)) (c : Nat) (w : World) (_hcap : l.length ≤ c) (hr : Rd w A (cellsP l)) :
    Calls Try.prog 10 #[trapV Z A l.length c] w fun e w' => e = .returned (.bool true) ∧ Below w.heap.size w w' := by
  have HL := fun w => Lib.hid (long_c Z A l.length c w)
  have HK := fun w => Lib.hid (known_c w)
  have x0 := Bx.new w 24 #[.int .i64 Z, .slice A l.length c]
  have hb0 := bl_alloc (Below.refl w.heap.size w) (.cells #[.int .i64 Z, .slice A l.length c] 24)
  generalize hw0 : w.alloc (.cells #[.int .i64 Z, .slice A l.length c] 24) = w0 at *
  obtain ⟨c0, c1, _⟩ := x0.two
  by_cases hlong : 60 < l.length
  · rw [decide_eq_true hlong] at HL
    go_enter Try.func10, Try.ntmps10
    go_wp2_with (fail)
    refine (HL _).out.mono ?_
    rintro e w1 ⟨rfl, hb1⟩
    go_wp2_with (fail)
    refine (HK _).out.mono ?_
    rintro e w2 ⟨rfl, hb2⟩
    go_wp2_with (fail)
    go_ret
    exact ⟨rfl, bl_call hb0 (bl_call hb1 hb2)⟩
  · rw [decide_eq_false hlong] at HL
    have hlen : l.length ≤ 1000 := by omega
    have H1 := fun w1 hr1 => Lib.hid (Line_c Z A l c w1 hlen hr1)
    have H2 := fun w1 hr1 => Lib.hid (rLine2_c Z A l c w1 hlen hr1)
    have H3 := fun w1 hr1 => Lib.hid (Ring_c Z A l c w1 hlen hr1)
    have H4 := fun w1 hr1 => Lib.hid (rRing2_c Z A l c w1 hlen hr1)
    have H5 := fun w1 hr1 => Lib.hid (Junctions_c Z A l c w1 hlen hr1)
    have H6 := fun w1 hr1 => Lib.hid (rJunctions_c Z A l c w1 hlen hr1)
    have hGl := lineG_len Z l
    have hRl := ringG_len Z l
    have hJl := juncG_len Z l
    have hcase : ∃ b1 b2 : Bool, decide (lineG Z l ≠ []) = b1 ∧ decide (ringG Z l ≠ []) = b2 ∧ ((b1 = false ∧ b2 = false) ∨ (b1 = true ∧ b2 = false ∧ juncG Z l = []) ∨ (b1 = false ∧ b2 = true ∧ juncG Z l = [])) := by
      obtain ⟨s1, s2, s3⟩ := shape_law Z l
      refine ⟨_, _, rfl, rfl, ?_⟩
      by_cases e1 : lineG Z l = []
      · by_cases e2 : ringG Z l = []
        · left; simp [e1, e2]
        · right; right; exact ⟨by simp [e1], by simp [e2], s3 e2⟩
      · right; left
        refine ⟨by simp [e1], ?_, s2 e1⟩
        rcases s1 with s1 | s1
        · exact absurd s1 e1
        · simp [s1]
    obtain ⟨b1, b2, hb1, hb2, hcase⟩ := hcase
    rw [hb1] at H1 H2
    rw [hb2] at H3 H4
    clear hb1 hb2 hlong
    generalize lineG Z l = G at *
    generalize ringG Z l = R at *
    generalize juncG Z l = J at *
    generalize trapE Z l = x at *
    have HS3 := fun A5 A6 c5' c6' w9 h h' => Lib.hid (sameInts_c A5 A6 J J c5' c6' w9 (by omega) h h')
    rw [decide_eq_true (rfl : J = J)] at HS3
    have HS1 := fun A5 A6 c5' c6' w9 h h' => Lib.hid (sameInts_c A5 A6 G G c5' c6' w9 (by omega) h h')
    have HS2 := fun A5 A6 c5' c6' w9 h h' => Lib.hid (sameInts_c A5 A6 R R c5' c6' w9 (by omega) h h')
    rw [decide_eq_true (rfl : G = G)] at HS1
    rw [decide_eq_true (rfl : R = R)] at HS2
    rcases hcase with ⟨rfl, rfl⟩ | ⟨rfl, rfl, rfl⟩ | ⟨rfl, rfl, rfl⟩
    all_goals
      go_enter Try.func10, Try.ntmps10
      go_wp2_with (fail)
      refine (HL _).out.mono ?_
      rintro e w1 ⟨rfl, hb1⟩
      have y1 := x0.call hb1
      clear c0 c1
      obtain ⟨c0, c1, _⟩ := y1.two
      have hb01 := bl_call hb0 hb1
      go_wp2_with (fail)
      refine (H1 _ (hr.later hb01)).out.mono ?_
      rintro e w2 ⟨A1, c1', rfl, ho1, hb2⟩
      have hb02 := bl_call hb01 hb2
      have y2 := y1.call hb2
      clear c0 c1
      obtain ⟨c0, c1, _⟩ := y2.two
      go_wp2_with (fail)
      refine (H2 _ (hr.later hb02)).out.mono ?_
      rintro e w3 ⟨A2, c2', rfl, ho2, hb3⟩
      have hb03 := bl_call hb02 hb3
      have y3 := y2.call hb3
      clear c0 c1
      obtain ⟨c0, c1, _⟩ := y3.two
      go_wp2_with (fail)
      refine (H3 _ (hr.later hb03)).out.mono ?_
      rintro e w4 ⟨A3, c3', rfl, ho3, hb4⟩
      have hb04 := bl_call hb03 hb4
      have y4 := y3.call hb4
      clear c0 c1
      obtain ⟨c0, c1, _⟩ := y4.two
      go_wp2_with (fail)
      refine (H4 _ (hr.later hb04)).out.mono ?_
      rintro e w5 ⟨A4, c4', rfl, ho4, hb5⟩
      have hb05 := bl_call hb04 hb5
      have y5 := y4.call hb5
      clear c0 c1
      obtain ⟨c0, c1, _⟩ := y5.two
      go_wp2_with (fail)
      refine (H5 _ (hr.later hb05)).out.mono ?_
      rintro e w6 ⟨A5, c5', rfl, ho5, hb6⟩
      have hb06 := bl_call hb05 hb6
      have y6 := y5.call hb6
      clear c0 c1
      obtain ⟨c0, c1, _⟩ := y6.two
      go_wp2_with (fail)
      refine (H6 _ (hr.later hb06)).out.mono ?_
      rintro e w7 ⟨A6, c6', rfl, ho6, hb7⟩
      have hb07 := bl_call hb06 hb7
      have hr1 := (own_rd ho1).1.later (bl_call (bl_call (bl_call (bl_call hb3 hb4) hb5) hb6) hb7)
      have hr2 := (own_rd ho2).1.later (bl_call (bl_call (bl_call hb4 hb5) hb6) hb7)
      have hr3 := (own_rd ho3).1.later (bl_call (bl_call hb5 hb6) hb7)
      have hr4 := (own_rd ho4).1.later (bl_call hb6 hb7)
      have hr5 := (own_rd ho5).1.later hb7
      have hr6 := (own_rd ho6).1
      clear c0 c1 H1 H2 H3 H4 H5 H6
      go_wp2_with (fail)
      refine (HS1 _ _ _ _ _ hr1 hr2).out.mono ?_
      rintro e w8 ⟨rfl, hb8⟩
      go_wp2_with (fail)
      refine (HS2 _ _ _ _ _ (hr3.later hb8) (hr4.later hb8)).out.mono ?_
      rintro e w9 ⟨rfl, hb9⟩
      go_wp2_with (fail)
      refine (HS3 _ _ _ _ _ (hr5.later (bl_call hb8 hb9)) (hr6.later (bl_call hb8 hb9))).out.mono ?_
      rintro e w10 ⟨rfl, hb10⟩
      go_wp2_with (fail)
      refine (HK _).out.mono ?_
      rintro e w11 ⟨rfl, hb11⟩
      go_wp2_with (fail)
      go_ret
      exact ⟨rfl, bl_call (bl_call (bl_call (bl_call hb07 hb8) hb9) hb10) hb11⟩
end Go.Proofs.Ytjgpfnnokdcgoaa
