/- Far, Reach, Farthest of the specification. -/
import Derived.Test.YtjgpfnnokdcgoaaDistA
namespace Go.Proofs.Ytjgpfnnokdcgoaa
open Go.RowKit Go.Maps

set_option maxRecDepth 100000 in
set_option maxHeartbeats 4000000 in
theorem rFar_c (Z : Int) (A B C : Option Addr) (l : List (Int × Int)) (p q : List Int) (c d f : Nat) (w : World) (hlen : l.length ≤ 1000) (hlen' : p.length ≤ 1000) (hlen2 : q.length ≤ 1000) (hcap : p.length ≤ d) (hcap2 : q.length ≤ f) (hr : Rd w A (cellsP l)) (hs : Rd w B (ints p)) (hs2 : Rd w C (ints q)) :
    Calls Try.prog 37 #[trapV Z A l.length c, .slice B p.length d, .slice C q.length f] w fun e w' => e = .returned (.tuple #[.int .i64 (farV (arrG Z l p q)), .bool (arrG Z l p q).isSome, .int .i64 (bothE Z l p q)]) ∧ Below w.heap.size w w' := by
  have x0 := Bx.new w 24 #[.int .i64 Z, .slice A l.length c]
  have hb0 := bl_alloc (Below.refl w.heap.size w) (.cells #[.int .i64 Z, .slice A l.length c] 24)
  generalize hw0 : w.alloc (.cells #[.int .i64 Z, .slice A l.length c] 24) = w0 at *
  have HV := Lib.hid (rplace_c Z A B l p c d w0 hlen hlen' hcap (hr.later hb0) (hs.later hb0))
  have HW := fun w1 h h' => Lib.hid (rplace_c Z A C l q c f w1 hlen hlen2 hcap2 h h')
  obtain ⟨c0, c1, _⟩ := x0.two
  by_cases h1 : placeE Z l p = 0
  · by_cases h2 : placeE Z l q = 0
    · by_cases h3 : p.length = q.length
      · have hB : bothE Z l p q = 0 := by rw [bothE, if_pos h1, if_pos h2, if_pos h3]
        obtain ⟨ht, hp4, _, _⟩ := placeE_zero h1
        obtain ⟨n, rfl, _, h6⟩ := trap_nat ht
        have hvp := placeE_v h1
        have hvq := placeE_v h2
        have e1 : arrG n l p q = findL (reachL l n p) q := by rw [arrG, if_pos hB]; simp
        rw [e1, hB]
        rw [h1] at HV
        rw [h2] at HW
        have HD := fun w1 h h' => Lib.hid (distances_c n A B l p c d w1 h1 hlen hcap h h')
        have hq6 : ∀ y ∈ q, 0 ≤ y ∧ y < 6 := fun y hy => by have := hvq.inn y hy; omega
        have HN := fun w1 h => Lib.hid (number_c C q f w1 (by omega) hq6 h)
        have hnb := numP_bound p.length q h3.symm hq6
        rw [show (6 : Int) ^ p.length = ((6 ^ p.length : Nat) : Int) by push_cast; rfl] at hnb
        obtain ⟨k, hk⟩ := Int.eq_ofNat_of_zero_le hnb.1
        have hkN : k < 6 ^ p.length := by have := hnb.2; rw [hk] at this; exact Int.ofNat_lt.1 this
        have hdf := dOf_find (l := l) hvp hvq h6 hp4 h3.symm hk
        have hsm : ∀ a, findL (reachL l n p) q = some a → a.2.length < 360 := fun a h => ((find_short hvp h6 hp4).1 a h).2.2
        rw [hk] at HN
        have h3' : ((p.length : Int) != (q.length : Int)) = false := by simp [h3]
        generalize reachL l n p = L at *
        generalize findL L q = o at *
        generalize 6 ^ p.length = N at *
        have hkN' : (k : Int) < (N : Int) := by omega
        clear e1 hB h1 h2 ht hvp hvq hq6 hnb hk h3
        go_enter Try.func37, Try.ntmps37
        go_wp2_with (fail)
        refine HV.out.mono ?_
        rintro e w1 ⟨rfl, hb1⟩
        have hb01 := bl_call hb0 hb1
        have y1 := x0.call hb1
        clear c0 c1
        obtain ⟨c0, c1, _⟩ := y1.two
        go_wp2_with (fail)
        refine (HW _ (hr.later hb01) (hs2.later hb01)).out.mono ?_
        rintro e w2 ⟨rfl, hb2⟩
        have hb02 := bl_call hb01 hb2
        have y2 := y1.call hb2
        clear c0 c1
        obtain ⟨c0, c1, _⟩ := y2.two
        go_wp2_with (fail)
        refine (HD _ (hr.later hb02) (hs.later hb02)).out.mono ?_
        rintro e w3 ⟨A3, c3, rfl, ho3, hb3⟩
        have hb03 := bl_call hb02 hb3
        go_wp2_with (fail)
        refine (HN _ (hs2.later hb03)).out.mono ?_
        rintro e w4 ⟨rfl, rfl⟩
        obtain ⟨b, o3, rfl, _, hc⟩ := (own_rd ho3).1.at_ (k := k) (by rw [ints_length, distL_len]; exact hkN)
        have hcell := hc k _ (ints_get (by rw [distL_len]; exact hkN))
        rw [distL_get _ hkN, hdf] at hcell
        clear hc hdf
        cases o with
        | none =>
          go_wp2_with (fail)
          go_ret3
          exact ⟨rfl, hb03⟩
        | some a =>
          have hal := hsm a rfl
          have hne : ¬ (a.2.length : Int) = 1000000 := by omega
          simp only [] at hcell
          go_wp2_with (fail)
          go_ret3
          exact ⟨rfl, hb03⟩
      · have hB : bothE Z l p q = 5 := by rw [bothE, if_pos h1, if_pos h2, if_neg h3]
        have e1 : arrG Z l p q = none := by rw [arrG, hB]; rfl
        rw [e1, hB]
        rw [h1] at HV
        rw [h2] at HW
        have h3' : ((p.length : Int) != (q.length : Int)) = true := by simp; omega
        clear e1 hB h1 h2 h3
        go_enter Try.func37, Try.ntmps37
        go_wp2_with (fail)
        refine HV.out.mono ?_
        rintro e w1 ⟨rfl, hb1⟩
        have hb01 := bl_call hb0 hb1
        have y1 := x0.call hb1
        clear c0 c1
        obtain ⟨c0, c1, _⟩ := y1.two
        go_wp2_with (fail)
        refine (HW _ (hr.later hb01) (hs2.later hb01)).out.mono ?_
        rintro e w2 ⟨rfl, hb2⟩
        go_wp2_with (fail)
        go_ret3
        exact ⟨rfl, bl_call hb01 hb2⟩
    · have hB : bothE Z l p q = placeE Z l q := by rw [bothE, if_pos h1, if_neg h2]
      have e1 : arrG Z l p q = none := by rw [arrG, hB, if_neg h2]
      rw [e1, hB]
      rw [h1] at HV
      clear e1 hB h1
      generalize placeE Z l q = te at *
      go_enter Try.func37, Try.ntmps37
      go_wp2_with (fail)
      refine HV.out.mono ?_
      rintro e w1 ⟨rfl, hb1⟩
      have hb01 := bl_call hb0 hb1
      have y1 := x0.call hb1
      clear c0 c1
      obtain ⟨c0, c1, _⟩ := y1.two
      go_wp2_with (fail)
      refine (HW _ (hr.later hb01) (hs2.later hb01)).out.mono ?_
      rintro e w2 ⟨rfl, hb2⟩
      go_wp2_with (fail)
      go_ret3
      exact ⟨rfl, bl_call hb01 hb2⟩
  · have hB : bothE Z l p q = placeE Z l p := by rw [bothE, if_neg h1]
    have e1 : arrG Z l p q = none := by rw [arrG, hB, if_neg h1]
    rw [e1, hB]
    clear e1 hB
    generalize placeE Z l p = te at *
    go_enter Try.func37, Try.ntmps37
    go_wp2_with (fail)
    refine HV.out.mono ?_
    rintro e w1 ⟨rfl, hb1⟩
    go_wp2_with (fail)
    go_ret3
    exact ⟨rfl, bl_call hb0 hb1⟩
end Go.Proofs.Ytjgpfnnokdcgoaa
