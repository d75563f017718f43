/- The free zones of a place. -/
import Derived.Test.YtjgpfnnokdcgoaaNear3
namespace Go.Proofs.Ytjgpfnnokdcgoaa
open Go.RowKit Go.Maps

/-- The free zones. -/
def freeL (p : List Int) (Z : Nat) : List Int := upTo (fun z => !p.contains z) Z
def freeG (Z : Int) (l : List (Int × Int)) (p : List Int) : List Int := if placeE Z l p = 0 then freeL p Z.toNat else []
theorem has_contains (p : List Int) (x : Int) : decide (x ∈ p) = p.contains x := (List.contains_eq_mem x p).symm

set_option maxRecDepth 100000 in
set_option maxHeartbeats 2000000 in
theorem Free_c (Z : Int) (A B : Option Addr) (l : List (Int × Int)) (p : List Int) (c d : Nat) (w : World) (hlen : l.length ≤ 1000) (hlen' : p.length ≤ 1000) (hr : Rd w A (cellsP l)) (hs : Rd w B (ints p)) :
    Calls Try.prog 27 #[trapV Z A l.length c, .slice B p.length d] w (OutI (freeG Z l p) (placeE Z l p) w) := by
  obtain ⟨i0, hi, hz0, hz1, hz2⟩ := info_parts int_info
  have x0 := Bx.new w 24 #[.int .i64 Z, .slice A l.length c]
  have hb0 := bl_alloc (Below.refl w.heap.size w) (.cells #[.int .i64 Z, .slice A l.length c] 24)
  generalize hw0 : w.alloc (.cells #[.int .i64 Z, .slice A l.length c] 24) = w0 at *
  have HV := Lib.hid (place_c Z A B l p c d w0 hlen hlen' (hr.later hb0) (hs.later hb0))
  obtain ⟨c0, c1, _⟩ := x0.two
  by_cases hp : placeE Z l p = 0
  · obtain ⟨ht, hp4, hin, hnd⟩ := placeE_zero hp
    obtain ⟨n, rfl, hn1, hn6⟩ := trap_nat ht
    have HH := fun t w1 h => Lib.hid (contains_c B p d t w1 (by omega) h)
    have e1 : freeG n l p = upTo (fun z => !p.contains z) n := by rw [freeG, if_pos hp]; simp [freeL]
    rw [e1]
    rw [hp] at HV ⊢
    have HF := upTo_len (fun z => !p.contains z) 
    have HU : ∀ k, Hid (upTo (fun z => !p.contains z) (k + 1) = if (!p.contains (k : Int)) then upTo (fun z => !p.contains z) k ++ [(k : Int)] else upTo (fun z => !p.contains z) k) := fun k => rfl
    clear e1 hp hin hnd ht
    generalize (fun z => !p.contains z) = f at *
    go_enter Try.func27, Try.ntmps27
    go_wp2_with (fail)
    refine HV.out.mono ?_
    rintro e w1 ⟨rfl, hb1⟩
    have hb01 := bl_call hb0 hb1
    have x1 := x0.call hb1
    have hs1 := hs.later hb01
    have hb01' := hb01.size
    clear c0 c1
    obtain ⟨c0, c1, _⟩ := x1.two
    go_wp2_with (fail)
    clear c0 c1
    go_loopg [7, 17] n (fun gk v iv wr => ∃ k : Nat, Hid (k + gk = n) ∧ iv = .int .i64 (k : Int) ∧ wr.ownsRow w1.heap.size 3 1 v (upTo f k).length (ints (upTo f k)) ∧ Below w1.heap.size w1 wr)
    case atStart => exact ⟨0, by simp [Hid], rfl, World.ownsRow_nil _ _ _ _, Below.refl _ _⟩
    case round =>
      obtain ⟨k, HK, rfl, hown, hb⟩ := hrel
      have xr := x1.call hb
      obtain ⟨c0, c1, _⟩ := xr.two
      rcases gk with _ | gi
      · obtain rfl : k = n := HK.out
        obtain ⟨A', c', rfl⟩ := own_form hown
        go_wp2_with (fail)
        go_ret2
        exact ⟨A', c', rfl, own_base hown hb01', bl_call hb01 hb⟩
      · have hkl' : (k : Int) < (n : Int) := by have h := HK.out; omega
        have hkn : k < n := by omega
        have hfl := HF k
        have HC := HH k wr (hs1.later hb)
        have HX := HU k
        clear HU HH
        generalize upTo f k = L at *

        cases hq : p.contains (k : Int) with
        | true =>
          rw [hq] at HC
          have HX' : Hid (upTo f (k + 1) = L) := by show _ = _; rw [HX.out, hq]; rfl
          clear HX hq
          go_wp2_with (fail)
          refine HC.out.mono ?_
          rintro e w2 ⟨rfl, hb2⟩
          go_wp2_with (fail)
          go_roundg gi
          case rel => exact ⟨k + 1, by have h := HK.out; show _ = _; omega, by go_num, by rw [HX'.out]; exact (own_call hown hb2), (bl_call hb hb2)⟩
          case measure => omega
        | false =>
          rw [hq] at HC
          have HX' : Hid (upTo f (k + 1) = L ++ [(k : Int)]) := by show _ = _; rw [HX.out, hq]; rfl
          clear HX hq
          obtain ⟨B', d', rfl⟩ := own_form hown
          go_wp2_with (fail)
          refine HC.out.mono ?_
          rintro e w2 ⟨rfl, hb2⟩
          have hown2 := own_call hown hb2
          have hb02 := bl_call hb hb2
          have hsz2 := hb02.size
          go_wp2_with (at_builtin; refine wpList_append_own _ rfl _ _ 25 rfl w1.heap.size 3 i0 _ 1 8 Try.underlying25 hi hz0 hz1 hz2 rfl (by decide) _ _ _ rfl (hown2.alloc _) ⟨w2.heap.size, 0, none⟩ 1 1 [.int .i64 k] rfl rfl (cell_one_new _ _ _) (ints_oneCell .i64 [_]) ?c3 ?c4 ?c5 ?_)
          case c3 => unfold maxLen; omega
          case c4 => omega
          case c5 => simp; omega
          intro v2 w4 hown4 hg4 _
          have hb4 : Below w1.heap.size w1 w4 := (bl_alloc hb02 _).trans (grown_below (hown2.alloc _) hg4 (by simp; omega))
          have HO : Hid (w4.ownsRow w1.heap.size 3 1 v2 (upTo f (k + 1)).length (ints (upTo f (k + 1)))) := by
            show World.ownsRow _ _ _ _ _ _ _
            rw [HX'.out, ints_snoc, List.length_append]; exact hown4
          clear hown4 hg4 hown hown2
          go_wp2_with (fail)
          go_roundg gi
          case rel => exact ⟨k + 1, by have h := HK.out; show _ = _; omega, by go_num, HO.out, hb4⟩
          case measure => omega
  · have e1 : freeG Z l p = [] := by rw [freeG, if_neg hp]
    rw [e1]
    clear e1
    generalize placeE Z l p = te at *
    go_enter Try.func27, Try.ntmps27
    go_wp2_with (fail)
    refine HV.out.mono ?_
    rintro e w1 ⟨rfl, hb1⟩
    go_wp2_with (fail)
    go_ret2
    exact ⟨none, 0, rfl, World.ownsRow_nil _ _ _ _, bl_call hb0 hb1⟩

set_option maxRecDepth 100000 in
set_option maxHeartbeats 2000000 in
theorem rFree_c (Z : Int) (A B : Option Addr) (l : List (Int × Int)) (p : List Int) (c d : Nat) (w : World) (hlen : l.length ≤ 1000) (hlen' : p.length ≤ 1000) (hcap : p.length ≤ d) (hr : Rd w A (cellsP l)) (hs : Rd w B (ints p)) :
    Calls Try.prog 28 #[trapV Z A l.length c, .slice B p.length d] w (OutI (freeG Z l p) (placeE Z l p) w) := by
  obtain ⟨i0, hi, hz0, hz1, hz2⟩ := info_parts int_info
  have x0 := Bx.new w 24 #[.int .i64 Z, .slice A l.length c]
  have hb0 := bl_alloc (Below.refl w.heap.size w) (.cells #[.int .i64 Z, .slice A l.length c] 24)
  generalize hw0 : w.alloc (.cells #[.int .i64 Z, .slice A l.length c] 24) = w0 at *
  have HV := Lib.hid (rplace_c Z A B l p c d w0 hlen hlen' hcap (hr.later hb0) (hs.later hb0))
  obtain ⟨c0, c1, _⟩ := x0.two
  by_cases hp : placeE Z l p = 0
  · obtain ⟨ht, hp4, hin, hnd⟩ := placeE_zero hp
    obtain ⟨n, rfl, hn1, hn6⟩ := trap_nat ht
    have HH := fun t w1 h => Lib.hid (has_c B p d t w1 (by omega) h)
    have e1 : freeG n l p = upTo (fun z => !p.contains z) n := by rw [freeG, if_pos hp]; simp [freeL]
    rw [e1]
    rw [hp] at HV ⊢
    have HF := upTo_len (fun z => !p.contains z) 
    have HU : ∀ k, Hid (upTo (fun z => !p.contains z) (k + 1) = if (!p.contains (k : Int)) then upTo (fun z => !p.contains z) k ++ [(k : Int)] else upTo (fun z => !p.contains z) k) := fun k => rfl
    clear e1 hp hin hnd ht
    generalize (fun z => !p.contains z) = f at *
    go_enter Try.func28, Try.ntmps28
    go_wp2_with (fail)
    refine HV.out.mono ?_
    rintro e w1 ⟨rfl, hb1⟩
    have hb01 := bl_call hb0 hb1
    have x1 := x0.call hb1
    have hs1 := hs.later hb01
    have hb01' := hb01.size
    clear c0 c1
    obtain ⟨c0, c1, _⟩ := x1.two
    go_wp2_with (fail)
    clear c0 c1
    go_loopg [7, 8] n (fun gk v iv wr => ∃ k : Nat, Hid (k + gk = n) ∧ iv = .int .i64 (k : Int) ∧ wr.ownsRow w1.heap.size 3 1 v (upTo f k).length (ints (upTo f k)) ∧ Below w1.heap.size w1 wr)
    case atStart => exact ⟨0, by simp [Hid], rfl, World.ownsRow_nil _ _ _ _, Below.refl _ _⟩
    case round =>
      obtain ⟨k, HK, rfl, hown, hb⟩ := hrel
      have xr := x1.call hb
      obtain ⟨c0, c1, _⟩ := xr.two
      rcases gk with _ | gi
      · obtain rfl : k = n := HK.out
        obtain ⟨A', c', rfl⟩ := own_form hown
        go_wp2_with (fail)
        go_ret2
        exact ⟨A', c', rfl, own_base hown hb01', bl_call hb01 hb⟩
      · have hkl' : (k : Int) < (n : Int) := by have h := HK.out; omega
        have hkn : k < n := by omega
        have hfl := HF k
        have HC := HH k wr (hs1.later hb)
        have HX := HU k
        clear HU HH
        generalize upTo f k = L at *
        rw [has_contains] at HC
        cases hq : p.contains (k : Int) with
        | true =>
          rw [hq] at HC
          have HX' : Hid (upTo f (k + 1) = L) := by show _ = _; rw [HX.out, hq]; rfl
          clear HX hq
          go_wp2_with (fail)
          refine HC.out.mono ?_
          rintro e w2 ⟨rfl, rfl⟩
          go_wp2_with (fail)
          go_roundg gi
          case rel => exact ⟨k + 1, by have h := HK.out; show _ = _; omega, by go_num, by rw [HX'.out]; exact hown, hb⟩
          case measure => omega
        | false =>
          rw [hq] at HC
          have HX' : Hid (upTo f (k + 1) = L ++ [(k : Int)]) := by show _ = _; rw [HX.out, hq]; rfl
          clear HX hq
          obtain ⟨B', d', rfl⟩ := own_form hown
          go_wp2_with (fail)
          refine HC.out.mono ?_
          rintro e w2 ⟨rfl, rfl⟩
          have hown2 := hown
          have hb02 := hb
          have hsz2 := hb02.size
          go_wp2_with (at_builtin; refine wpList_append_own _ rfl _ _ 25 rfl w1.heap.size 3 i0 _ 1 8 Try.underlying25 hi hz0 hz1 hz2 rfl (by decide) _ _ _ rfl (hown2.alloc _) ⟨wr.heap.size, 0, none⟩ 1 1 [.int .i64 k] rfl rfl (cell_one_new _ _ _) (ints_oneCell .i64 [_]) ?c3 ?c4 ?c5 ?_)
          case c3 => unfold maxLen; omega
          case c4 => omega
          case c5 => simp; omega
          intro v2 w4 hown4 hg4 _
          have hb4 : Below w1.heap.size w1 w4 := (bl_alloc hb02 _).trans (grown_below (hown2.alloc _) hg4 (by simp; omega))
          have HO : Hid (w4.ownsRow w1.heap.size 3 1 v2 (upTo f (k + 1)).length (ints (upTo f (k + 1)))) := by
            show World.ownsRow _ _ _ _ _ _ _
            rw [HX'.out, ints_snoc, List.length_append]; exact hown4
          clear hown4 hg4 hown hown2
          go_wp2_with (fail)
          go_roundg gi
          case rel => exact ⟨k + 1, by have h := HK.out; show _ = _; omega, by go_num, HO.out, hb4⟩
          case measure => omega
  · have e1 : freeG Z l p = [] := by rw [freeG, if_neg hp]
    rw [e1]
    clear e1
    generalize placeE Z l p = te at *
    go_enter Try.func28, Try.ntmps28
    go_wp2_with (fail)
    refine HV.out.mono ?_
    rintro e w1 ⟨rfl, hb1⟩
    go_wp2_with (fail)
    go_ret2
    exact ⟨none, 0, rfl, World.ownsRow_nil _ _ _ _, bl_call hb0 hb1⟩
end Go.Proofs.Ytjgpfnnokdcgoaa
