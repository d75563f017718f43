/- Options compared: package budget's. -/
import Derived.Test.YtgbjglkiaoplmaaCmp
namespace Go.Proofs.Ytgbjglkiaoplmaa
open Go.RowKit

/-- The order of options: by cost, then by choice. -/
def cmpO (o p : Op) : Int := if cmpI o.k p.k = 0 then cmpL o.c p.c else cmpI o.k p.k
set_option maxRecDepth 100000 in
set_option maxHeartbeats 4000000 in
theorem ocompare_c (A B : Option Addr) (o p : Op) (c c2 : Nat) (u v u' v' : Int) (w : World) (hlo : o.c.length ≤ 1000) (ha : Rd w A (ints o.c)) (hb : Rd w B (ints p.c)) :
    Calls Try.prog 107 #[.agg #[.slice A o.c.length c, .int .i64 o.k, .int .i64 u, .int .i64 v], .agg #[.slice B p.c.length c2, .int .i64 p.k, .int .i64 u', .int .i64 v']] w fun e w' => e = .returned (.int .i64 (cmpO o p)) ∧ Below w.heap.size w w' := by
  have hc : Hid (cmpO o p = if cmpI o.k p.k = 0 then cmpL o.c p.c else cmpI o.k p.k) := rfl
  have HC := fun w => Lib.hid (cmp_c o.k p.k w)
  have HS := fun w ha hb => Lib.hid (sCompare_c A B o.c p.c c c2 w hlo ha hb)
  have HO := fun Q w h => Lib.hid (cmpOr_c Q (cmpI o.k p.k) (cmpL o.c p.c) 2 w h)
  rw [← hc.out] at HO
  generalize cmpO o p = r at *
  generalize cmpI o.k p.k = x at *
  generalize cmpL o.c p.c = y at *
  clear hc
  generalize o.k = ok at *
  generalize p.k = pk at *
  generalize ints o.c = oi at *
  generalize ints p.c = pi at *
  generalize o.c.length = ol at *
  generalize p.c.length = pl at *
  have hb0 := bl_alloc (bl_alloc (Below.refl w.heap.size w) (.cells #[.slice A ol c, .int .i64 ok, .int .i64 u, .int .i64 v] 95)) (.cells #[.slice B pl c2, .int .i64 pk, .int .i64 u', .int .i64 v'] 95)
  have x0 : Bx ((w.alloc (.cells #[.slice A ol c, .int .i64 ok, .int .i64 u, .int .i64 v] 95)).alloc (.cells #[.slice B pl c2, .int .i64 pk, .int .i64 u', .int .i64 v'] 95)) w.heap.size 95 #[.slice A ol c, .int .i64 ok, .int .i64 u, .int .i64 v] := (Bx.newAt rfl).alloc _
  have x1 : Bx ((w.alloc (.cells #[.slice A ol c, .int .i64 ok, .int .i64 u, .int .i64 v] 95)).alloc (.cells #[.slice B pl c2, .int .i64 pk, .int .i64 u', .int .i64 v'] 95)) (w.heap.size + 1) 95 #[.slice B pl c2, .int .i64 pk, .int .i64 u', .int .i64 v'] := Bx.newAt (by simp)
  go_enter Try.func107, Try.ntmps107
  go_wp2_with (fail)
  generalize (w.alloc (.cells #[.slice A ol c, .int .i64 ok, .int .i64 u, .int .i64 v] 95)).alloc (.cells #[.slice B pl c2, .int .i64 pk, .int .i64 u', .int .i64 v'] 95) = wo at *
  have hd : Below wo.heap.size wo wo.drew := (Below.refl _ _).drew
  obtain ⟨f0, f1, _, _⟩ := x0.drew.four
  obtain ⟨g0, g1, _, _⟩ := x1.drew.four
  have HCd := Lib.hid (HC wo.drew)
  have HSd := Lib.hid (HS wo.drew ((ha.later hb0).later hd) ((hb.later hb0).later hd))
  have HOd := Lib.hid (HO (some ⟨wo.heap.size, 0, none⟩) (wo.drew.alloc (.cells #[.int .i64 x, .int .i64 y] 3)) (Bx.rd (Bx.newAt (by simp))))
  have hbF := bl_alloc (bl_call hb0 hd) (.cells #[.int .i64 x, .int .i64 y] 3)
  go_region_law (first
    | (go_simp; refine HCd.out.out.mono ?_; rintro e w4 ⟨rfl, rfl⟩; try go_simp)
    | (go_simp; refine HSd.out.out.mono ?_; rintro e w5 ⟨rfl, rfl⟩; try go_simp)
    | (go_simp; refine HOd.out.out.mono ?_; rintro e w6 ⟨rfl, rfl⟩; try go_simp))
  all_goals
    go_wp2_with (fail)
    go_ret
    exact ⟨rfl, hbF⟩
end Go.Proofs.Ytgbjglkiaoplmaa
