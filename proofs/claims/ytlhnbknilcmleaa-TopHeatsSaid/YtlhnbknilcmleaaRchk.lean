/- The document's CheckInsert. -/
import Derived.Test.YtlhnbknilcmleaaRhot
import Derived.Test.YtlhnbknilcmleaaOnly
namespace Go.Proofs.Ytlhnbknilcmleaa
open Go.RowKit

theorem insE_cases (n : Int) (p v : List T3) (lim : Int) :
    (limE n p lim ≠ 0 ∧ insE n p v lim = limE n p lim ∧ insV n p v lim = 0) ∨ (limE n p lim = 0 ∧ 40 < v.length ∧ insE n p v lim = 3 ∧ insV n p v lim = 0) ∨ (limE n p lim = 0 ∧ v.length ≤ 40 ∧ v.all (actB n) = false ∧ insE n p v lim = 1 ∧ insV n p v lim = 0) ∨
    (limE n p lim = 0 ∧ v.length ≤ 40 ∧ v.all (actB n) = true ∧ (mF p v ≠ some p.length → insE n p v lim = 5 ∧ insV n p v lim = 0) ∧ (mF p v = some p.length → hotL lim v ≠ [] → insE n p v lim = 8 ∧ insV n p v lim = 0) ∧ (mF p v = some p.length → hotL lim v = [] → insE n p v lim = 0 ∧ insV n p v lim = (v.length : Int) - p.length)) := by
  by_cases h1 : limE n p lim = 0
  · by_cases h2 : v.length ≤ 40
    · cases h3 : v.all (actB n) with
      | false =>
        have e : insE n p v lim = 1 := by rw [insE, if_pos h1, if_pos h2, h3]; rfl
        exact .inr (.inr (.inl ⟨h1, h2, rfl, e, by rw [insV, e]; rfl⟩))
      | true =>
        refine .inr (.inr (.inr ⟨h1, h2, rfl, fun h4 => ?_, fun h4 h5 => ?_, fun h4 h5 => ?_⟩))
        · have e : insE n p v lim = 5 := by rw [insE, if_pos h1, if_pos h2, if_pos h3, if_neg h4]
          exact ⟨e, by rw [insV, e]; rfl⟩
        · have e : insE n p v lim = 8 := by rw [insE, if_pos h1, if_pos h2, if_pos h3, if_pos h4, if_neg h5]
          exact ⟨e, by rw [insV, e]; rfl⟩
        · have e : insE n p v lim = 0 := by rw [insE, if_pos h1, if_pos h2, if_pos h3, if_pos h4, if_pos h5]
          exact ⟨e, by rw [insV, if_pos e]⟩
    · have e : insE n p v lim = 3 := by rw [insE, if_pos h1, if_neg h2]
      exact .inr (.inl ⟨h1, by omega, e, by rw [insV, e]; rfl⟩)
  · have e : insE n p v lim = limE n p lim := by rw [insE, if_neg h1]
    exact .inl ⟨h1, e, by rw [insV, e, if_neg h1]⟩
/-- What the next act of the list does to the match. -/
theorem mStep_cases (p : List T3) (k : Nat) (a : T3) : (k < p.length ∧ a = p.getD k t0 ∧ mStep p k a = some (k + 1)) ∨ (k < p.length ∧ a ≠ p.getD k t0 ∧ mStep p k a = if a.1 = 2 then some k else none) ∨ (¬ k < p.length ∧ mStep p k a = if a.1 = 2 then some k else none) := by
  by_cases h : k < p.length
  · by_cases h2 : a = p.getD k t0
    · exact .inl ⟨h, h2, by rw [mStep, if_pos ⟨h, h2⟩]⟩
    · exact .inr (.inl ⟨h, h2, by rw [mStep, if_neg (fun x => h2 x.2)]⟩)
  · exact .inr (.inr ⟨h, by rw [mStep, if_neg (fun x => h x.1)]⟩)
theorem mF_fail {p v : List T3} {j : Nat} (h : mF p (v.take j) = none) : mF p v ≠ some p.length := by rw [mF_none_later h]; simp

set_option maxRecDepth 100000 in
set_option maxHeartbeats 4000000 in
theorem rCheckInsert_c (n : Int) (A : Option Addr) (p : List T3) (c : Nat) (B : Option Addr) (v : List T3) (d : Nat) (lim : Int) (w : World) (hlen : p.length ≤ 1000) (hvl : v.length ≤ 1000) (hr : Rd w A (cellsT p)) (hs : Rd w B (cellsT v)) :
    Calls Try.prog 37 #[.int .i64 n, .slice A p.length c, .slice B v.length d, .int .i64 lim] w fun e w' => e = .returned (.tuple #[.int .i64 (insV n p v lim), .int .i64 (insE n p v lim)]) ∧ Below w.heap.size w w' := by
  have HV := Lib.hid (rlimited_c n A p c lim w hlen hr)
  rcases insE_cases n p v lim with ⟨h1, h2, h3⟩ | ⟨h1, h2, h3, h4⟩ | ⟨h1, h2, h3, h4, h5⟩ | ⟨h1, h2, h3, h4, h5, h6⟩
  · have hv' : (limE n p lim != 0) = true := by simpa using h1
    rw [h2, h3]
    clear h2 h3
    generalize limE n p lim = ev at *
    go_enter Try.func37, Try.ntmps37
    go_wp2_with (go_at_call 63; refine HV.out.mono ?_; rintro e w1 ⟨rfl, hb1⟩)
    go_ret2
    exact ⟨rfl, hb1⟩
  · have h2' : (40 : Int) < (v.length : Int) := by omega
    rw [h1] at HV
    rw [h3, h4]
    clear h1 h3 h4
    go_enter Try.func37, Try.ntmps37
    go_wp2_with (go_at_call 63; refine HV.out.mono ?_; rintro e w1 ⟨rfl, hb1⟩)
    go_ret2
    exact ⟨rfl, hb1⟩
  · have h2' : ¬ (40 : Int) < (v.length : Int) := by omega
    have hn := (validE_zero.1 (limE_zero.1 h1).1).1
    have HA := fun w1 h => Lib.hid (rareActs_c n B v d w1 hn hvl h)
    rw [h3] at HA
    rw [h1] at HV
    rw [h4, h5]
    clear h1 h3 h4 h5 hn
    go_enter Try.func37, Try.ntmps37
    go_wp2_with (first | (go_at_call 63; refine HV.out.mono ?_; rintro e w1 ⟨rfl, hb1⟩) | (go_at_call 60; refine (HA _ (hs.later hb1)).out.mono ?_; rintro e w2 ⟨rfl, hb2⟩))
    go_ret2
    exact ⟨rfl, bl_call hb1 hb2⟩
  · have h2' : ¬ (40 : Int) < (v.length : Int) := by omega
    have hn := (validE_zero.1 (limE_zero.1 h1).1).1
    have h20 := (validE_zero.1 (limE_zero.1 h1).1).2.1
    have hav := all_acts hn.2 h3
    have HA := fun w1 h => Lib.hid (rareActs_c n B v d w1 hn hvl h)
    have HH := fun w1 h => Lib.hid (rhot_c B v d lim w1 hvl hav h)
    rw [h3] at HA
    rw [h1] at HV
    have H4 := Lib.hid h4
    have H5 := Lib.hid h5
    have H6 := Lib.hid h6
    clear h1 h3 h4 h5 h6 hn
    go_enter Try.func37, Try.ntmps37
    go_wp2_with (first | (go_at_call 63; refine HV.out.mono ?_; rintro e w1 ⟨rfl, hb1⟩) | (go_at_call 60; refine (HA _ (hs.later hb1)).out.mono ?_; rintro e w2 ⟨rfl, hb2⟩))
    go_loopg [11, 12] v.length (fun gk kv iv wr => ∃ (j k : Nat), Hid (j + gk = v.length) ∧ iv = .int .i64 (j : Int) ∧ kv = .int .i64 (k : Int) ∧ Hid (mF p (v.take j) = some k) ∧ Hid (k ≤ p.length) ∧ Below w.heap.size w wr)
    case atStart => exact ⟨0, 0, by simp [Hid], rfl, rfl, rfl, Nat.zero_le _, bl_call hb1 hb2⟩
    case round =>
      obtain ⟨j, k, HJ, rfl, rfl, HM, HKL, hb⟩ := hrel
      have hrr := hr.later hb
      have hss := hs.later hb
      rcases gk with _ | gi
      · obtain rfl : j = v.length := HJ.out
        have hmf := HM.out
        rw [List.take_length] at hmf
        by_cases hk : k < p.length
        · have hk' : (k : Int) < (p.length : Int) := by omega
          obtain ⟨e1, e2⟩ := H4.out (by rw [hmf]; intro e; injection e with e; omega)
          have E1 := Lib.hid e1
          have E2 := Lib.hid e2
          clear e1 e2 hmf
          go_wp2_with (fail)
          go_ret2
          exact ⟨by rw [E1.out, E2.out]; rfl, hb⟩
        · obtain rfl : k = p.length := by have := HKL.out; omega
          cases hh : hotL lim v with
          | nil =>
            obtain ⟨e1, e2⟩ := H6.out hmf hh
            have E1 := Lib.hid e1
            have E2 := Lib.hid e2
            rw [hh] at HH
            clear e1 e2 hmf hh
            have hwr : wrap64 ((v.length : Int) - (p.length : Int)) = (v.length : Int) - p.length := IntWalk.wrap64_in _ (by omega)
            go_wp2_with (go_at_call 64; refine (HH _ hss).out.mono ?_; rintro e w3 ⟨A3, c3, rfl, ho3, hb3⟩)
            go_ret2
            exact ⟨by rw [E1.out, E2.out]; rfl, bl_call hb hb3⟩
          | cons x t =>
            obtain ⟨e1, e2⟩ := H5.out hmf (by rw [hh]; simp)
            have E1 := Lib.hid e1
            have E2 := Lib.hid e2
            rw [hh] at HH
            clear e1 e2 hmf hh
            have hpos : (0 : Int) < ((t.length : Int) + 1) := by omega
            go_wp2_with (go_at_call 64; refine (HH _ hss).out.mono ?_; rintro e w3 ⟨A3, c3, rfl, ho3, hb3⟩)
            go_ret2
            exact ⟨by rw [E1.out, E2.out]; rfl, bl_call hb hb3⟩
      · have hjl : j < v.length := by have := HJ.out; omega
        have hjl' : (j : Int) < (v.length : Int) := by omega
        have HMN : Hid (mF p (v.take (j + 1)) = mStep p k (v.getD j t0)) := by show _ = _; rw [mF_succ hjl, HM.out]; rfl
        obtain ⟨b, o, rfl, _, c0, c1, c2⟩ := hss.tri hjl
        have hcells : Hid (∀ w1, Below wr.heap.size wr w1 → w1.cell? ⟨b, o + j * 3, none⟩ = some (.int .i64 (v.getD j t0).1) ∧ w1.cell? ⟨b, o + j * 3 + 1, none⟩ = some (.int .i64 (v.getD j t0).2.1) ∧ w1.cell? ⟨b, o + j * 3 + 2, none⟩ = some (.int .i64 (v.getD j t0).2.2)) := fun w1 hw => by
          obtain ⟨b', o', he, h⟩ := hss.tris hjl
          injection he with he
          injection he with e1 e2
          subst e1 e2
          exact h w1 hw
        have HFAIL := Lib.hid (fun h => @mF_fail p v (j + 1) h)
        have HSTEP := Lib.hid (mStep_cases p k (v.getD j t0))
        generalize v.getD j t0 = x at *
        obtain ⟨x0, x1, x2⟩ := x
        simp only [] at c0 c1 c2
        simp only at hcells
        rcases HSTEP.out with ⟨hk, he, hm⟩ | ⟨hk, he, hm⟩ | ⟨hk, hm⟩
        · have hk' : (k : Int) < (p.length : Int) := by omega
          have HX : Hid (mF p (v.take (j + 1)) = some (k + 1)) := HMN.out.trans hm
          obtain ⟨b2, o2, rfl, _, e0, e1, e2⟩ := hrr.tri hk
          rw [← he] at e0 e1 e2
          simp only [] at e0 e1 e2
          have HK := Lib.hid hk
          clear he hm
          go_wp2_with (fail)
          go_quiet (fail)
          go_wp2_with (fail)
          go_roundg gi
          case rel => exact ⟨j + 1, k + 1, by have := HJ.out; show _ = _; omega, by go_num, by go_num, HX, HK.out, below_drewN hb _⟩
          case measure => omega
        · have hk' : (k : Int) < (p.length : Int) := by omega
          have HMS := Lib.hid hm
          obtain ⟨b2, o2, rfl, _, e0, e1, e2⟩ := hrr.tri hk
          generalize p.getD k t0 = y at *
          obtain ⟨y0, y1, y2⟩ := y
          simp only [] at e0 e1 e2
          clear hm
          rcases three_cases x0 x1 x2 y0 y1 y2 with h0 | ⟨rfl, h0⟩ | ⟨rfl, rfl, h0⟩ | ⟨rfl, rfl, rfl⟩
          · clear he
            by_cases h2 : x0 = 2
            · subst h2
              have HX : Hid (mF p (v.take (j + 1)) = some k) := by show _ = _; rw [HMN.out, HMS.out]; rfl
              go_wp2_with (fail)
              go_quiet (fail)
              generalize hwd : wr.drewN _ = wd
              have hbd : Below wr.heap.size wr wd := by rw [← hwd]; exact below_drewN (Below.refl _ _) _
              obtain ⟨d0, d1, d2⟩ := hcells.out wd hbd
              clear hwd
              go_wp2_with (fail)
              go_roundg gi
              case rel => exact ⟨j + 1, k, by have := HJ.out; show _ = _; omega, by go_num, rfl, HX, HKL, bl_call hb hbd⟩
              case measure => omega
            · have HX : Hid (mF p (v.take (j + 1)) = none) := by show _ = _; rw [HMN.out, HMS.out]; exact if_neg h2
              have q2 : (x0 != 2) = true := by simpa using h2
              obtain ⟨e1, e2⟩ := H4.out (HFAIL.out HX.out)
              have E1 := Lib.hid e1
              have E2 := Lib.hid e2
              clear e1 e2
              go_wp2_with (fail)
              go_quiet (fail)
              generalize hwd : wr.drewN _ = wd
              have hbd : Below wr.heap.size wr wd := by rw [← hwd]; exact below_drewN (Below.refl _ _) _
              obtain ⟨d0, d1, d2⟩ := hcells.out wd hbd
              clear hwd
              go_wp2_with (fail)
              go_ret2
              exact ⟨by rw [E1.out, E2.out]; rfl, bl_call hb hbd⟩
          · clear he
            by_cases h2 : x0 = 2
            · subst h2
              have HX : Hid (mF p (v.take (j + 1)) = some k) := by show _ = _; rw [HMN.out, HMS.out]; rfl
              go_wp2_with (fail)
              go_quiet (fail)
              generalize hwd : wr.drewN _ = wd
              have hbd : Below wr.heap.size wr wd := by rw [← hwd]; exact below_drewN (Below.refl _ _) _
              obtain ⟨d0, d1, d2⟩ := hcells.out wd hbd
              clear hwd
              go_wp2_with (fail)
              go_roundg gi
              case rel => exact ⟨j + 1, k, by have := HJ.out; show _ = _; omega, by go_num, rfl, HX, HKL, bl_call hb hbd⟩
              case measure => omega
            · have HX : Hid (mF p (v.take (j + 1)) = none) := by show _ = _; rw [HMN.out, HMS.out]; exact if_neg h2
              have q2 : (x0 != 2) = true := by simpa using h2
              obtain ⟨e1, e2⟩ := H4.out (HFAIL.out HX.out)
              have E1 := Lib.hid e1
              have E2 := Lib.hid e2
              clear e1 e2
              go_wp2_with (fail)
              go_quiet (fail)
              generalize hwd : wr.drewN _ = wd
              have hbd : Below wr.heap.size wr wd := by rw [← hwd]; exact below_drewN (Below.refl _ _) _
              obtain ⟨d0, d1, d2⟩ := hcells.out wd hbd
              clear hwd
              go_wp2_with (fail)
              go_ret2
              exact ⟨by rw [E1.out, E2.out]; rfl, bl_call hb hbd⟩
          · clear he
            by_cases h2 : x0 = 2
            · subst h2
              have HX : Hid (mF p (v.take (j + 1)) = some k) := by show _ = _; rw [HMN.out, HMS.out]; rfl
              go_wp2_with (fail)
              go_quiet (fail)
              generalize hwd : wr.drewN _ = wd
              have hbd : Below wr.heap.size wr wd := by rw [← hwd]; exact below_drewN (Below.refl _ _) _
              obtain ⟨d0, d1, d2⟩ := hcells.out wd hbd
              clear hwd
              go_wp2_with (fail)
              go_roundg gi
              case rel => exact ⟨j + 1, k, by have := HJ.out; show _ = _; omega, by go_num, rfl, HX, HKL, bl_call hb hbd⟩
              case measure => omega
            · have HX : Hid (mF p (v.take (j + 1)) = none) := by show _ = _; rw [HMN.out, HMS.out]; exact if_neg h2
              have q2 : (x0 != 2) = true := by simpa using h2
              obtain ⟨e1, e2⟩ := H4.out (HFAIL.out HX.out)
              have E1 := Lib.hid e1
              have E2 := Lib.hid e2
              clear e1 e2
              go_wp2_with (fail)
              go_quiet (fail)
              generalize hwd : wr.drewN _ = wd
              have hbd : Below wr.heap.size wr wd := by rw [← hwd]; exact below_drewN (Below.refl _ _) _
              obtain ⟨d0, d1, d2⟩ := hcells.out wd hbd
              clear hwd
              go_wp2_with (fail)
              go_ret2
              exact ⟨by rw [E1.out, E2.out]; rfl, bl_call hb hbd⟩
          · exact absurd rfl he
        · have hk' : ¬ (k : Int) < (p.length : Int) := by omega
          have hkd : decide (k < p.length) = false := decide_eq_false hk
          have HMS := Lib.hid hm
          clear hm
          by_cases h2 : x0 = 2
          · subst h2
            have HX : Hid (mF p (v.take (j + 1)) = some k) := by show _ = _; rw [HMN.out, HMS.out]; rfl
            go_wp2_with (fail)
            go_quiet (fail)
            generalize hwd : wr.drewN _ = wd
            have hbd : Below wr.heap.size wr wd := by rw [← hwd]; exact below_drewN (Below.refl _ _) _
            obtain ⟨d0, d1, d2⟩ := hcells.out wd hbd
            clear hwd
            go_wp2_with (fail)
            go_roundg gi
            case rel => exact ⟨j + 1, k, by have := HJ.out; show _ = _; omega, by go_num, rfl, HX, HKL, bl_call hb hbd⟩
            case measure => omega
          · have HX : Hid (mF p (v.take (j + 1)) = none) := by show _ = _; rw [HMN.out, HMS.out]; exact if_neg h2
            have q2 : (x0 != 2) = true := by simpa using h2
            obtain ⟨e1, e2⟩ := H4.out (HFAIL.out HX.out)
            have E1 := Lib.hid e1
            have E2 := Lib.hid e2
            clear e1 e2
            go_wp2_with (fail)
            go_quiet (fail)
            generalize hwd : wr.drewN _ = wd
            have hbd : Below wr.heap.size wr wd := by rw [← hwd]; exact below_drewN (Below.refl _ _) _
            obtain ⟨d0, d1, d2⟩ := hcells.out wd hbd
            clear hwd
            go_wp2_with (fail)
            go_ret2
            exact ⟨by rw [E1.out, E2.out]; rfl, bl_call hb hbd⟩
end Go.Proofs.Ytlhnbknilcmleaa
