/- Readings of the opposite value: package drift's. -/
import Derived.Test.YtbbhaongakmhpaaTrn
namespace Go.Proofs.Ytbbhaongakmhpaa
open Go.RowKit

set_option maxRecDepth 100000 in
set_option maxHeartbeats 4000000 in
theorem Opposite_c (A : Option Addr) (l : List T3) (c : Nat) (w : World) (hlen : l.length ≤ 1000) (hr : Rd w A (cellsT l)) :
    Calls Try.prog 50 #[.slice A l.length c] w (OutR (oppG l) (validE l) w) := by
  have HV := Lib.hid (validate_c A l c w hlen hr)
  by_cases hv : validE l = 0
  · have ho := validE_ok.1 hv
    have HG : oppG l = l.map fun a => (a.1, -a.2.2, -a.2.1) := by rw [oppG, if_pos hv]; rfl
    have HC := fun w1 h => Lib.hid (cloneR_c A l c w1 hlen h)
    have HT : Hid (∀ k, k < l.length → (-1000 ≤ (l.getD k t0).2.1 ∧ (l.getD k t0).2.1 ≤ (l.getD k t0).2.2) ∧ (l.getD k t0).2.2 ≤ 1000) := fun k hk => ⟨⟨ho.lo _ hk, ho.lh _ hk⟩, ho.hi _ hk⟩
    rw [HG, hv]
    rw [hv] at HV
    have HML : Hid ((l.map fun a : T3 => ((a.1, -a.2.2, -a.2.1) : T3)).length = l.length) := by show _ = _; rw [List.length_map]
    have HMA := Lib.hid (mp_all (fun a : T3 => ((a.1, -a.2.2, -a.2.1) : T3)) l)
    have HMG := Lib.hid (fun k h => @mp_get (fun a : T3 => ((a.1, -a.2.2, -a.2.1) : T3)) l k h)
    have HMS := Lib.hid (fun k h => @mp_set (fun a : T3 => ((a.1, -a.2.2, -a.2.1) : T3)) l k h)
    have HMN := Lib.hid (fun k h => @mp_len (fun a : T3 => ((a.1, -a.2.2, -a.2.1) : T3)) l k h)
    have HM0 := Lib.hid (mp_zero (fun a : T3 => ((a.1, -a.2.2, -a.2.1) : T3)) l)
    generalize (l.map fun a : T3 => ((a.1, -a.2.2, -a.2.1) : T3)) = R at *
    generalize hmp : mp (fun a : T3 => ((a.1, -a.2.2, -a.2.1) : T3)) l = mpf at *
    clear hmp HG hv ho
    go_enter Try.func50, Try.ntmps50
    go_wp2_with (fail)
    refine HV.out.mono ?_
    rintro e w1 ⟨rfl, hb1⟩
    go_wp2_with (fail)
    refine (HC _ (hr.later hb1)).out.mono ?_
    rintro e w3 ⟨A3, c3, rfl, ho3, hb3⟩
    have hb13 := bl_call hb1 hb3
    have ho4 : w3.ownsRow w.heap.size 55 3 (.slice A3 l.length c3) l.length (cellsT (mpf 0)) := by rw [HM0.out]; exact own_base ho3 hb1.size
    go_wp2_with (fail)
    go_loopg [17] l.length (fun gk iv wr => ∃ k : Nat, Hid (k + gk = l.length) ∧ iv = .int .i64 (k : Int) ∧ wr.ownsRow w.heap.size 55 3 (.slice A3 l.length c3) l.length (cellsT (mpf k)) ∧ Below w.heap.size w wr)
    case atStart => exact ⟨0, by simp [Hid], rfl, ho4, hb13⟩
    case round =>
      obtain ⟨k, HK, rfl, hown, hb⟩ := hrel
      rcases gk with _ | gi
      · obtain rfl : k = l.length := HK.out
        have HE := HMA.out
        rw [HE] at hown
        go_wp2_with (fail)
        go_ret2
        exact ⟨A3, c3, by rw [HML.out]; rfl, by rw [HML.out]; exact hown, hb⟩
      · have hkl : k < l.length := by have := HK.out; omega
        have hkl' : (k : Int) < (l.length : Int) := by omega
        obtain ⟨⟨q0, q1⟩, q2⟩ := HT.out k hkl
        obtain ⟨b, o, rfl, hbl, r0, r1, r2⟩ := (hr.later hb).tri hkl
        have hml := HMN.out k (by omega)
        have hg2 := HMG.out k hkl
        have hs2 := HMS.out k hkl
        generalize l.getD k t0 = x at *
        obtain ⟨x0, x1, x2⟩ := x
        simp only [] at r0 r1 r2 q0 q1 q2 hs2
        have hoA := hown.alloc (.cells #[.int .i64 x0, .int .i64 x1, .int .i64 x2] 55)
        have hbA := bl_alloc hb (.cells #[.int .i64 x0, .int .i64 x1, .int .i64 x2] 55)
        have hxA : Bx (wr.alloc (.cells #[.int .i64 x0, .int .i64 x1, .int .i64 x2] 55)) wr.heap.size 55 #[.int .i64 x0, .int .i64 x1, .int .i64 x2] := Bx.new _ _ _
        obtain ⟨z0, z1, z2, _, _, _⟩ := hxA.three
        obtain ⟨y0, y1, y2, _, _, _⟩ := (hxA.call (Below.refl _ _).drew).three
        have howd := own_call hoA (Below.refl _ _).drew
        obtain ⟨g, rfl, hgb, hgl0, -, -⟩ := own_at3 hown hml hkl
        obtain ⟨g', hg', -, -, ⟨c0, c1, c2⟩, f0, f1, f2⟩ := own_at3 hoA hml hkl
        injection hg' with hg'
        injection hg' with hg'
        subst hg'
        have hne : wr.heap.size ≠ g := by omega
        obtain ⟨u0, u1, u2, _, _, _⟩ := (hxA.far hne (i := k * 3 + 1) (.int .i64 (-x2))).three
        obtain ⟨v0, v1, v2, _, _, _⟩ := (hxA.far hne (i := k * 3 + 1) (.int .i64 (-x2))).drew.three
        obtain ⟨g', hg', -, -, ⟨d0, d1, d2⟩, f3, f4, f5⟩ := own_at3 howd hml hkl
        injection hg' with hg'
        injection hg' with hg'
        subst hg'
        have ho5 := own_set12 (k := k) hown (by omega) (-x2) (-x1)
        have hp1 : (wr.setCell ⟨g, k * 3 + 1, none⟩ (.int .i64 (-x2))).ownsRow w.heap.size 55 3 (.slice (some ⟨g, 0, none⟩) l.length c3) l.length (cellsT ((mpf k).set k (((mpf k).getD k t0).1, -x2, ((mpf k).getD k t0).2.2))) := by
          rw [← cellsT_set1]; exact (hown.stored _ _).1
        rw [hg2] at c0 c1 c2 d0 d1 d2 ho5 hp1
        have hgs : ((mpf k).set k (x0, -x2, x2)).getD k t0 = (x0, -x2, x2) := by simp [show k < (mpf k).length by omega]
        have hp2 := hp1.alloc (.cells #[.int .i64 x0, .int .i64 x1, .int .i64 x2] 55)
        have hx2 : Bx ((wr.setCell ⟨g, k * 3 + 1, none⟩ (.int .i64 (-x2))).alloc (.cells #[.int .i64 x0, .int .i64 x1, .int .i64 x2] 55)) wr.heap.size 55 #[.int .i64 x0, .int .i64 x1, .int .i64 x2] := Bx.newAt (by simp)
        obtain ⟨s0, s1, s2, _, _, _⟩ := hx2.three
        obtain ⟨t0', t1', t2', _, _, _⟩ := hx2.drew.three
        obtain ⟨g', hg', -, -, ⟨-, -, c2'⟩, -, -, f2'⟩ := own_at3 hp2 (by simpa using hml) hkl
        injection hg' with hg'
        injection hg' with hg'
        subst hg'
        obtain ⟨g', hg', -, -, ⟨-, -, d2'⟩, -, -, f5'⟩ := own_at3 (own_call hp2 (Below.refl _ _).drew) (by simpa using hml) hkl
        injection hg' with hg'
        injection hg' with hg'
        subst hg'
        rw [hgs] at c2' d2'
        rw [hs2] at ho5
        have hb5 := bl_alloc (bl_set (bl_set hb hgb (i := k * 3 + 1) (.int .i64 (-x2))) hgb (i := k * 3 + 2) (.int .i64 (-x1))) (.cells #[.int .i64 x0, .int .i64 x1, .int .i64 x2] 55)
        have e1 : IntKind.i64.wrap (-x1) = -x1 := IntWalk.i64_in _ ⟨by omega, by omega⟩
        have e2 : IntKind.i64.wrap (-x2) = -x2 := IntWalk.i64_in _ ⟨by omega, by omega⟩
        have e3 : wrap64 (-x1) = -x1 := IntWalk.wrap64_in _ ⟨by omega, by omega⟩
        have e4 : wrap64 (-x2) = -x2 := IntWalk.wrap64_in _ ⟨by omega, by omega⟩
        have HO5 := Lib.hid (own_call (ho5.alloc (.cells #[.int .i64 x0, .int .i64 x1, .int .i64 x2] 55)) (Below.refl _ _).drew)
        have HB5 := Lib.hid hb5.drew
        clear ho5 hb5 hml hown hoA howd hxA hbA hg2 hs2 hp1 hp2 hx2 hgs
        go_wp2_with (fail)
        have mixed : Try.prog.follows .mixedOrders = true := by kernel_rfl
        go_big_region_o
        all_goals go_wp2
        go_roundg gi
        case rel => exact ⟨k + 1, by have := HK.out; show _ = _; omega, by go_num, HO5.out, HB5.out⟩
        case measure => omega
  · have HB : oppG l = [] := by rw [oppG, if_neg hv]
    have hv' : (validE l != 0) = true := by simpa using hv
    rw [HB]
    clear HB
    generalize validE l = ev at *
    go_enter Try.func50, Try.ntmps50
    go_wp2_with (fail)
    refine HV.out.mono ?_
    rintro e w1 ⟨rfl, hb1⟩
    go_wp2_with (fail)
    go_ret2
    exact ⟨none, 0, rfl, World.ownsRow_nil _ _ _ _, hb1⟩
end Go.Proofs.Ytbbhaongakmhpaa
