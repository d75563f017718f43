/- Whether a move of a place is right. -/
import Derived.Test.YtjgpfnnokdcgoaaPlanL
import Derived.Test.YtjgpfnnokdcgoaaNear3
import Derived.StillTailTactics
namespace Go.Proofs.Ytjgpfnnokdcgoaa
open Go.RowKit Go.Maps

set_option maxRecDepth 100000 in
set_option maxHeartbeats 4000000 in
theorem check_c (Z : Nat) (l : List (Int × Int)) (h0 h1 h2 h3 h4 h5 : Value) (B : Option Addr) (p : List Int) (d : Nat) (mi mt : Int) (w : World) (hZ : Z ≤ 6) (hlen : p.length ≤ 1000) (hin : ∀ x ∈ p, 0 ≤ x ∧ x < (Z : Int)) (hn : NetR w Z l [h0, h1, h2, h3, h4, h5]) (hs : Rd w B (ints p)) :
    Calls Try.prog 71 #[.agg #[.int .i64 Z, h0, h1, h2, h3, h4, h5], .slice B p.length d, .agg #[.int .i64 mi, .int .i64 mt]] w fun e w' => e = .returned (.int .i64 (moveE l Z p (mi, mt))) ∧ Below w.heap.size w w' := by
  have xn0 := (Bx.new w 78 #[.int .i64 Z, h0, h1, h2, h3, h4, h5]).alloc (.cells #[.int .i64 mi, .int .i64 mt] 54)
  have xm : Bx ((w.alloc (.cells #[.int .i64 Z, h0, h1, h2, h3, h4, h5] 78)).alloc (.cells #[.int .i64 mi, .int .i64 mt] 54)) (w.heap.size + 1) 54 #[.int .i64 mi, .int .i64 mt] := Bx.newAt (by simp)
  have hb0 := bl_alloc (bl_alloc (Below.refl w.heap.size w) (.cells #[.int .i64 Z, h0, h1, h2, h3, h4, h5] 78)) (.cells #[.int .i64 mi, .int .i64 mt] 54)
  generalize hw0 : (w.alloc (.cells #[.int .i64 Z, h0, h1, h2, h3, h4, h5] 78)).alloc (.cells #[.int .i64 mi, .int .i64 mt] 54) = w0 at *
  have HI := fun x w => Lib.hid (isOneOf_c x p.length w)
  have HJ := fun x w => Lib.hid (isOneOf_c x Z w)
  have hn0 := hn.later hb0
  have hs0 := hs.later hb0
  obtain ⟨e0, e1, e2, e3, e4, e5, e6⟩ : w0.cell? ⟨w.heap.size, 0, none⟩ = some (.int .i64 Z) ∧ w0.cell? ⟨w.heap.size, 1, none⟩ = some h0 ∧ w0.cell? ⟨w.heap.size, 2, none⟩ = some h1 ∧ w0.cell? ⟨w.heap.size, 3, none⟩ = some h2 ∧ w0.cell? ⟨w.heap.size, 4, none⟩ = some h3 ∧ w0.cell? ⟨w.heap.size, 5, none⟩ = some h4 ∧ w0.cell? ⟨w.heap.size, 6, none⟩ = some h5 := ⟨xn0.cell 0, xn0.cell 1, xn0.cell 2, xn0.cell 3, xn0.cell 4, xn0.cell 5, xn0.cell 6⟩
  obtain ⟨m0, m1, _⟩ := xm.two
  have jn := xn0.lt
  have jm := xm.lt
  cases hi : zoneOk p.length mi with
  | false =>
    rw [show moveE l Z p (mi, mt) = 4 by simp [moveE, hi]]
    have HII := fun w => HI mi w
    rw [hi] at HII
    clear hi HI hn hs hn0 hs0 hin
    go_enter Try.func71, Try.ntmps71
    go_wp2_with (fail)
    refine (HII _).out.mono ?_
    rintro e w1 ⟨rfl, rfl⟩
    go_wp2_with (fail)
    go_ret
    exact ⟨rfl, hb0⟩
  | true =>
    cases ht : zoneOk Z mt with
    | false =>
      rw [show moveE l Z p (mi, mt) = 4 by simp [moveE, ht]]
      have HII := fun w => HI mi w
      have HJJ := fun w => HJ mt w
      rw [hi] at HII
      rw [ht] at HJJ
      clear hi ht HI hn hs hn0 hs0 hin
      go_enter Try.func71, Try.ntmps71
      go_wp2_with (fail)
      refine (HII _).out.mono ?_
      rintro e w1 ⟨rfl, rfl⟩
      go_wp2_with (fail)
      refine (HJJ _).out.mono ?_
      rintro e w1 ⟨rfl, rfl⟩
      go_wp2_with (fail)
      go_ret
      exact ⟨rfl, hb0⟩
    | true =>
      have HII := fun w => HI mi w
      have HJJ := fun w => HJ mt w
      rw [hi] at HII
      rw [ht] at HJJ
      obtain ⟨i, rfl, hil⟩ := zoneOk_nat hi
      have hil' : i < p.length := by omega
      have ha := hin (p.getD i 0) (by simp [hil'])
      obtain ⟨b, o, rfl, hbl, hc⟩ := hs0.at_ (k := i) (by simpa using hil')
      have hci := hc i _ (ints_get hil')
      have HML : moveE l Z p ((i : Int), mt) = if linkB l (p.getD i 0) mt then (if p.contains mt then 6 else 0) else 8 := by simp [moveE, hi, ht]
      have HC := fun w1 h => Lib.hid (contains_c (some ⟨b, o, none⟩) p d mt w1 (by omega) h)
      generalize p.getD i 0 = a at *
      obtain ⟨a, rfl⟩ := Int.eq_ofNat_of_zero_le ha.1
      have hLK := fun w1 h => Lib.hid (linked_c Z l h0 h1 h2 h3 h4 h5 a mt w1 (by omega) hZ h)
      rw [ht, Bool.true_and] at hLK
      rw [HML]
      clear HML hi ht HI hc hin ha hn hs
      have hn1 : NetR w0.drew Z l [h0, h1, h2, h3, h4, h5] := hn0.later (Below.refl _ _).drew
      cases hq : linkB l a mt with
      | false =>
        rw [hq] at hLK
        have HLL := hLK w0.drew hn1
        clear hLK hq
        go_enter Try.func71, Try.ntmps71
        go_wp2_with (fail)
        refine (HII _).out.mono ?_
        rintro e w1 ⟨rfl, rfl⟩
        go_wp2_with (fail)
        refine (HJJ _).out.mono ?_
        rintro e w1 ⟨rfl, rfl⟩
        go_wp2_with (fail)
        go_still_tail 8, (by kernel_rfl)
        change wpList _ _ _ _ _ w0.drew
        go_wp2_with (fail)
        refine HLL.out.mono ?_
        rintro e w1 ⟨rfl, hb1⟩
        go_wp2_with (fail)
        go_ret
        exact ⟨rfl, bl_call hb0.drew hb1⟩
      | true =>
        rw [hq] at hLK
        have HLL := hLK w0.drew hn1
        clear hLK hq
        have HCC := fun w1 (hb : Below w0.heap.size w0 w1) => HC w1 (hs0.later hb)
        clear HC
        generalize p.contains mt = r at *
        go_enter Try.func71, Try.ntmps71
        go_wp2_with (fail)
        refine (HII _).out.mono ?_
        rintro e w1 ⟨rfl, rfl⟩
        go_wp2_with (fail)
        refine (HJJ _).out.mono ?_
        rintro e w1 ⟨rfl, rfl⟩
        go_wp2_with (fail)
        go_still_tail 8, (by kernel_rfl)
        change wpList _ _ _ _ _ w0.drew
        go_wp2_with (fail)
        refine HLL.out.mono ?_
        rintro e w1 ⟨rfl, hb1⟩
        have hb01 : Below w0.heap.size w0 w1 := ((Below.refl _ _).drew).trans hb1
        have xm1 := xm.call hb01
        clear m0 m1
        obtain ⟨m0, m1, _⟩ := xm1.two
        have jm1 := xm1.lt
        go_wp2_with (fail)
        refine (HCC _ hb01).out.mono ?_
        rintro e w2 ⟨rfl, hb2⟩
        cases r
        · go_wp2_with (fail)
          go_ret
          exact ⟨rfl, bl_call (bl_call hb0 hb01) hb2⟩
        · go_wp2_with (fail)
          go_ret
          exact ⟨rfl, bl_call (bl_call hb0 hb01) hb2⟩
end Go.Proofs.Ytjgpfnnokdcgoaa
