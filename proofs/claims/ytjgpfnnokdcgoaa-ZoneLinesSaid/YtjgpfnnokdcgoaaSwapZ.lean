/- Whether two ions can exchange their zones. -/
import Derived.Test.YtjgpfnnokdcgoaaFindZ
import Derived.Test.YtjgpfnnokdcgoaaCloneI
import Derived.BigRegion
namespace Go.Proofs.Ytjgpfnnokdcgoaa
open Go.RowKit Go.Maps

/-- A place in which two ions have exchanged their zones. -/
def swapP (p : List Int) (i j : Nat) : List Int := (p.set i (p.getD j 0)).set j (p.getD i 0)
def swapG (Z : Int) (l : List (Int × Int)) (p : List Int) (i j : Int) : Bool := decide (placeE Z l p = 0) && (zoneOk p.length i && zoneOk p.length j && (findL (reachL l Z.toNat p) (swapP p i.toNat j.toNat)).isSome)
def swapE (Z : Int) (l : List (Int × Int)) (p : List Int) (i j : Int) : Int := if placeE Z l p = 0 then (if zoneOk p.length i && zoneOk p.length j then 0 else 4) else placeE Z l p

set_option maxRecDepth 100000 in
set_option maxHeartbeats 4000000 in
theorem CanSwap_c (Z : Int) (A B : Option Addr) (l : List (Int × Int)) (p : List Int) (c d : Nat) (i j : Int) (w : World) (hlen : l.length ≤ 1000) (hlen' : p.length ≤ 1000) (hr : Rd w A (cellsP l)) (hs : Rd w B (ints p)) :
    Calls Try.prog 43 #[trapV Z A l.length c, .slice B p.length d, .int .i64 i, .int .i64 j] w fun e w' => e = .returned (.tuple #[.bool (swapG Z l p i j), .int .i64 (swapE Z l p i j)]) ∧ Below w.heap.size w w' := by
  have x0 := Bx.new w 24 #[.int .i64 Z, .slice A l.length c]
  have hb0 := bl_alloc (Below.refl w.heap.size w) (.cells #[.int .i64 Z, .slice A l.length c] 24)
  generalize hw0 : w.alloc (.cells #[.int .i64 Z, .slice A l.length c] 24) = w0 at *
  have HV := Lib.hid (place_c Z A B l p c d w0 hlen hlen' (hr.later hb0) (hs.later hb0))
  have HI := fun x w => Lib.hid (isOneOf_c x p.length w)
  obtain ⟨c0, c1, _⟩ := x0.two
  by_cases hp : placeE Z l p = 0
  · cases hi : zoneOk p.length i with
    | false =>
      have e1 : swapG Z l p i j = false := by simp [swapG, hi]
      have e2 : swapE Z l p i j = 4 := by simp [swapE, hp, hi]
      rw [e1, e2]
      rw [hp] at HV
      have HII := fun w => HI i w
      rw [hi] at HII
      clear e1 e2 hp hi HI
      go_enter Try.func43, Try.ntmps43
      go_wp2_with (fail)
      refine HV.out.mono ?_
      rintro e w1 ⟨rfl, hb1⟩
      go_wp2_with (fail)
      refine (HII _).out.mono ?_
      rintro e w2 ⟨rfl, rfl⟩
      go_wp2_with (fail)
      go_ret2
      exact ⟨rfl, bl_call hb0 hb1⟩
    | true =>
      cases hj : zoneOk p.length j with
      | false =>
        have e1 : swapG Z l p i j = false := by simp [swapG, hj]
        have e2 : swapE Z l p i j = 4 := by simp [swapE, hp, hj]
        rw [e1, e2]
        rw [hp] at HV
        have HII := fun w => HI i w
        have HJJ := fun w => HI j w
        rw [hi] at HII
        rw [hj] at HJJ
        clear e1 e2 hp hi hj HI
        go_enter Try.func43, Try.ntmps43
        go_wp2_with (fail)
        refine HV.out.mono ?_
        rintro e w1 ⟨rfl, hb1⟩
        go_wp2_with (fail)
        refine (HII _).out.mono ?_
        rintro e w2 ⟨rfl, rfl⟩
        go_wp2_with (fail)
        refine (HJJ _).out.mono ?_
        rintro e w2 ⟨rfl, rfl⟩
        go_wp2_with (fail)
        go_ret2
        exact ⟨rfl, bl_call hb0 hb1⟩
      | true =>
        obtain ⟨ht, hp4, hin, hnd⟩ := placeE_zero hp
        obtain ⟨n, rfl, hn1, hn6⟩ := trap_nat ht
        have hpn := nodup_le hnd hin
        have e1 : swapG n l p i j = (findL (reachL l n p) (swapP p i.toNat j.toNat)).isSome := by simp [swapG, hp, hi, hj]
        have e2 : swapE n l p i j = 0 := by simp [swapE, hp, hi, hj]
        rw [e1, e2]
        rw [hp] at HV
        obtain ⟨hi0, hi1⟩ := zoneOk_iff.1 hi
        obtain ⟨hj0, hj1⟩ := zoneOk_iff.1 hj
        obtain ⟨i, rfl⟩ := Int.eq_ofNat_of_zero_le hi0
        obtain ⟨j, rfl⟩ := Int.eq_ofNat_of_zero_le hj0
        simp only [Int.toNat_natCast] at *
        have HII := fun w => HI i w
        have HJJ := fun w => HI j w
        rw [hi] at HII
        rw [hj] at HJJ
        have hi2 : i < p.length := by omega
        have hj2 : j < p.length := by omega
        have HF := fun C f w1 h hh hhh => Lib.hid (find_c n A B C l p (swapP p i j) c d f w1 ht hp4 hpn hin (by simp [swapP]) h hh hhh)
        rw [show (swapP p i j).length = p.length by simp [swapP]] at HF
        have HC := fun w1 h => Lib.hid (cloneI_c B p d w1 hlen' h)
        clear e1 e2 hp hi hj HI hin hnd ht
        go_enter Try.func43, Try.ntmps43
        go_wp2_with (fail)
        refine HV.out.mono ?_
        rintro e w1 ⟨rfl, hb1⟩
        have hb01 := bl_call hb0 hb1
        go_wp2_with (fail)
        refine (HII _).out.mono ?_
        rintro e w2 ⟨rfl, rfl⟩
        go_wp2_with (fail)
        refine (HJJ _).out.mono ?_
        rintro e w2 ⟨rfl, rfl⟩
        go_wp2_with (fail)
        refine (HC _ (hs.later hb01)).out.mono ?_
        rintro e w2 ⟨A', c', rfl, ho, hb2⟩
        have hb02 := bl_call hb01 hb2
        have hs2 := hs.later hb02
        obtain ⟨b, o, rfl, hbl, hc⟩ := hs2.at_ (k := i) (by simpa using hi2)
        have t0 := hc i _ (ints_get hi2)
        have t1 := hc j _ (ints_get hj2)
        obtain ⟨g, rfl, hg, k0, f0, ho2⟩ := own_putI ho hi2 (p.getD j 0)
        obtain ⟨_, he, _, k1, f1, _⟩ := own_putI ho hj2 (p.getD j 0)
        cases he
        obtain ⟨_, he, _, _, _, ho3⟩ := own_putI ho2 (i := j) (by simpa using hj2) (p.getD i 0)
        cases he
        have hgl := (own_rd ho).1.blk _ rfl (by intro h; have := congrArg List.length h; rw [ints_length] at this; simp only [List.length_nil] at this; omega)
        obtain ⟨c0, c1, _⟩ := ((x0.call hb1).call hb2).two
        simp only [List.length_set] at ho3
        change World.ownsRow _ _ _ _ _ _ (ints (swapP p i j)) at ho3
        have hx1 := (x0.call hb1).lt
        have hgw : w.heap.size ≤ g := by omega
        have y0 := (((x0.call hb1).call hb2).far (g' := g) (i := i) (by omega) (.int .i64 (p.getD j 0))).far (g' := g) (i := j) (by omega) (.int .i64 (p.getD i 0))
        have hbS : Below w.heap.size w ((w2.setCell ⟨g, i, none⟩ (.int .i64 (p.getD j 0))).setCell ⟨g, j, none⟩ (.int .i64 (p.getD i 0))).drew := (bl_set (bl_set hb02 hgw _) hgw _).drew
        have hrS : Rd ((w2.setCell ⟨g, i, none⟩ (.int .i64 (p.getD j 0))).setCell ⟨g, j, none⟩ (.int .i64 (p.getD i 0))).drew (some ⟨g, 0, none⟩) (ints (swapP p i j)) := by
          have h1 := (own_rd ho3).1
          exact h1
        have hFF := (HF (some ⟨g, 0, none⟩) c' _ (hr.later hbS) (hs.later hbS) hrS)
        clear hc ho2 ho3 hrS HF
        generalize p.getD i 0 = px at *
        generalize p.getD j 0 = py at *
        obtain ⟨wS, hwS⟩ : ∃ wS, wS = ((w2.setCell ⟨g, i, none⟩ (.int .i64 py)).setCell ⟨g, j, none⟩ (.int .i64 px)).drew := ⟨_, rfl⟩
        have y0' : Bx wS w.heap.size 24 #[.int .i64 n, .slice A l.length c] := by rw [hwS]; exact y0
        rw [← hwS] at hFF hbS
        go_wp2_with (fail)
        go_region
        all_goals
          clear c0 c1
          obtain ⟨c0, c1, _⟩ := y0'.two
          rw [← hwS]
          clear hwS
          go_wp2_with (fail)
          refine hFF.out.mono ?_
          rintro e w3 ⟨hv, hb3⟩
          rcases hv with ⟨hn, rfl⟩ | ⟨g3, a3, B3, hn, rfl, _, _⟩
          · have HN := Lib.hid hn
            clear hn
            go_wp2_with (fail)
            go_ret2
            exact ⟨by rw [HN.out]; rfl, bl_call hbS hb3⟩
          · have HN := Lib.hid hn
            clear hn
            go_wp2_with (fail)
            go_ret2
            exact ⟨by rw [HN.out]; rfl, bl_call hbS hb3⟩
  · have e1 : swapG Z l p i j = false := by simp [swapG, hp]
    have e2 : swapE Z l p i j = placeE Z l p := by simp [swapE, hp]
    rw [e1, e2]
    clear e1 e2
    generalize placeE Z l p = te at *
    go_enter Try.func43, Try.ntmps43
    go_wp2_with (fail)
    refine HV.out.mono ?_
    rintro e w1 ⟨rfl, hb1⟩
    go_wp2_with (fail)
    go_ret2
    exact ⟨rfl, bl_call hb0 hb1⟩
end Go.Proofs.Ytjgpfnnokdcgoaa
