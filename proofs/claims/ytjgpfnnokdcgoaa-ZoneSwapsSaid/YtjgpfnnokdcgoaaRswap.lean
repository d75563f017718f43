/- Whether two ions can exchange their zones, in the specification. -/
import Derived.Test.YtjgpfnnokdcgoaaDistA
import Derived.Test.YtjgpfnnokdcgoaaSwapZ
namespace Go.Proofs.Ytjgpfnnokdcgoaa
open Go.RowKit Go.Maps

/-- The number of a place in the table, where the place's numbers are zones. -/
theorem dOf_find6 {l : List (Int × Int)} {Z : Nat} {p q : List Int} (hv : PlV Z p) (hq6 : ∀ y ∈ q, 0 ≤ y ∧ y < 6) (hZ : Z ≤ 6) (h4 : p.length ≤ 4) (hq : q.length = p.length) {k : Nat} (hk : numP q = (k : Int)) :
    dOf (reachL l Z p) k = match findL (reachL l Z p) q with | some a => (a.2.length : Int) | none => 1000000 := by
  have hg := reachL_good (l := l) hv hZ h4
  cases hf : findL (reachL l Z p) q with
  | some a =>
    obtain ⟨ha, rfl⟩ := findL_some hf
    exact dOf_mem hg.nod hg.pl ha hk
  | none =>
    refine dOf_not fun x hx he => ?_
    have h1 := hg.pl x hx
    have := numP_inj p.length x.1 q h1.1 hq h1.2 hq6 (by rw [he, hk])
    rw [findL, List.find?_eq_none] at hf
    exact hf x hx (by simpa using this)
theorem swap_in {p : List Int} {i j : Nat} {Z : Int} (hi : i < p.length) (hj : j < p.length) (h : ∀ x ∈ p, 0 ≤ x ∧ x < Z) : ∀ x ∈ swapP p i j, 0 ≤ x ∧ x < Z := fun x hx => by
  have hm : ∀ k, k < p.length → p.getD k 0 ∈ p := fun k hk => by simp [hk]
  rw [swapP] at hx
  rcases List.mem_or_eq_of_mem_set hx with hx | rfl
  · rcases List.mem_or_eq_of_mem_set hx with hx | rfl
    · exact h x hx
    · exact h _ (hm j hj)
  · exact h _ (hm i hi)

set_option maxRecDepth 100000 in
set_option maxHeartbeats 4000000 in
theorem rCanSwap_c (Z : Int) (A B : Option Addr) (l : List (Int × Int)) (p : List Int) (c d : Nat) (i j : Int) (w : World) (hlen : l.length ≤ 1000) (hlen' : p.length ≤ 1000) (hcap : p.length ≤ d) (hr : Rd w A (cellsP l)) (hs : Rd w B (ints p)) :
    Calls Try.prog 44 #[trapV Z A l.length c, .slice B p.length d, .int .i64 i, .int .i64 j] w fun e w' => e = .returned (.tuple #[.bool (swapG Z l p i j), .int .i64 (swapE Z l p i j)]) ∧ Below w.heap.size w w' := by
  obtain ⟨i0, hi, hz0, hz1, hz2⟩ := info_parts int_info
  have x0 := Bx.new w 24 #[.int .i64 Z, .slice A l.length c]
  have hb0 := bl_alloc (Below.refl w.heap.size w) (.cells #[.int .i64 Z, .slice A l.length c] 24)
  generalize hw0 : w.alloc (.cells #[.int .i64 Z, .slice A l.length c] 24) = w0 at *
  have HV := Lib.hid (rplace_c Z A B l p c d w0 hlen hlen' hcap (hr.later hb0) (hs.later hb0))
  obtain ⟨c0, c1, _⟩ := x0.two
  by_cases h1 : placeE Z l p = 0
  · by_cases hz : (zoneOk p.length i && zoneOk p.length j) = true
    · obtain ⟨hzi, hzj⟩ := by simpa using hz
      obtain ⟨ht, hp4, hin, _⟩ := placeE_zero h1
      obtain ⟨n, rfl, _, h6⟩ := trap_nat ht
      obtain ⟨q1, q2⟩ := zoneOk_iff.1 hzi
      obtain ⟨q3, q4⟩ := zoneOk_iff.1 hzj
      obtain ⟨i, rfl⟩ := Int.eq_ofNat_of_zero_le q1
      obtain ⟨j, rfl⟩ := Int.eq_ofNat_of_zero_le q3
      have e1 : swapG n l p i j = (findL (reachL l n p) (swapP p i j)).isSome := by simp [swapG, h1, hzi, hzj]
      have e2 : swapE n l p i j = 0 := by simp [swapE, h1, hzi, hzj]
      have hvp := placeE_v h1
      rw [e1, e2]
      rw [h1] at HV
      have hi2 : i < p.length := by omega
      have hj2 : j < p.length := by omega
      have n1 : ¬ (i : Int) < 0 := by omega
      have n2 : ¬ (i : Int) ≥ (p.length : Int) := by omega
      have n3 : ¬ (j : Int) < 0 := by omega
      have n4 : ¬ (j : Int) ≥ (p.length : Int) := by omega
      have HD := fun w1 h h' => Lib.hid (distances_c n A B l p c d w1 h1 hlen hcap h h')
      have hsl : (swapP p i j).length = p.length := by simp [swapP]
      have hq6 : ∀ y ∈ swapP p i j, 0 ≤ y ∧ y < 6 := fun y hy => by have := swap_in hi2 hj2 hin y hy; omega
      have HN := fun C f w1 h => Lib.hid (number_c C (swapP p i j) f w1 (by omega) hq6 h)
      have hnb := numP_bound p.length (swapP p i j) hsl hq6
      rw [show (6 : Int) ^ p.length = ((6 ^ p.length : Nat) : Int) by push_cast; rfl] at hnb
      obtain ⟨k, hk⟩ := Int.eq_ofNat_of_zero_le hnb.1
      have hkN : k < 6 ^ p.length := by have := hnb.2; rw [hk] at this; exact Int.ofNat_lt.1 this
      have hdf := dOf_find6 (l := l) hvp hq6 h6 hp4 hsl hk
      have hsm : ∀ a, findL (reachL l n p) (swapP p i j) = some a → a.2.length < 360 := fun a h => ((find_short hvp h6 hp4).1 a h).2.2
      rw [hk, hsl] at HN
      generalize reachL l n p = L at *
      generalize findL L (swapP p i j) = o at *
      generalize 6 ^ p.length = N at *
      have hkN' : (k : Int) < (N : Int) := by omega
      clear e1 e2 h1 hz hzi hzj ht hin hvp hq6 hnb hk q1 q2 q3 q4
      go_enter Try.func44, Try.ntmps44
      go_wp2_with (fail)
      refine HV.out.mono ?_
      rintro e w1 ⟨rfl, hb1⟩
      have hb01 := bl_call hb0 hb1
      have x1 := x0.call hb1
      clear c0 c1
      obtain ⟨c0, c1, _⟩ := x1.two
      have ha0 : Below w1.heap.size w1 (w1.alloc (.cells #[] 3)) := bl_alloc (Below.refl _ _) _
      go_wp2_with (at_builtin; refine wpList_append_any rfl _ _ 25 rfl w1.heap.size 3 i0 _ 8 Try.underlying25 hi hz0 hz1 hz2 rfl _ 0 [] rfl (World.ownsRow_made (e := 3) (size := 1) w1 #[] 0 (Nat.le_refl _) (by decide) rfl) B p d rfl (hs.later (bl_call hb01 ha0)) (by unfold maxLen; omega) (by omega) (by simp) ?_)
      intro A' c' w4 ho hg1
      have hb4 : Below w1.heap.size w1 w4 := ha0.trans (grown_below (World.ownsRow_made (e := 3) (size := 1) w1 #[] 0 (Nat.le_refl _) (by decide) rfl) hg1 (by simp))
      clear hg1 ha0
      have hb04 := bl_call hb01 hb4
      have hs2 := hs.later hb04
      obtain ⟨b, o2, rfl, hbl, hc⟩ := hs2.at_ (k := i) (by simpa using hi2)
      have t0 := hc i _ (ints_get hi2)
      have t1 := hc j _ (ints_get hj2)
      obtain ⟨g, rfl, hg, k0, f0, ho2⟩ := own_putI ho hi2 (p.getD j 0)
      obtain ⟨_, he, _, k1, f1, _⟩ := own_putI ho hj2 (p.getD j 0)
      cases he
      obtain ⟨_, he, _, _, _, ho3⟩ := own_putI ho2 (i := j) (by simpa using hj2) (p.getD i 0)
      cases he
      have hgl := (own_rd ho).1.blk _ rfl (by intro h; have := congrArg List.length h; rw [ints_length] at this; simp only [List.length_nil] at this; omega)
      simp only [List.length_set] at ho3
      change World.ownsRow _ _ _ _ _ _ (ints (swapP p i j)) at ho3
      have hsz1 := hb01.size
      have hgw : w.heap.size ≤ g := by omega
      have x4 := x1.call hb4
      have y0 := (x4.far (g' := g) (i := i) (by have := x1.lt; omega) (.int .i64 (p.getD j 0))).far (g' := g) (i := j) (by have := x1.lt; omega) (.int .i64 (p.getD i 0))
      have hbS : Below w.heap.size w ((w4.setCell ⟨g, i, none⟩ (.int .i64 (p.getD j 0))).setCell ⟨g, j, none⟩ (.int .i64 (p.getD i 0))) := bl_set (bl_set hb04 hgw _) hgw _
      have hbs2 := hs2.at_ (k := i) (by simpa using hi2)
      have hgb : g ≠ b := by
        intro he
        subst he
        have := hs.blk _ rfl (by intro h; have := congrArg List.length h; rw [ints_length] at this; simp only [List.length_nil] at this; omega)
        simp only [] at this
        omega
      have hrS := (own_rd ho3).1
      have hFF := HD _ (hr.later hbS) (hs.later hbS)
      have HN2 := fun w1 h => HN (some ⟨g, 0, none⟩) c' w1 h
      clear hc ho2 ho3 hbs2 HN HD
      generalize p.getD i 0 = px at *
      generalize p.getD j 0 = py at *
      clear c0 c1
      obtain ⟨c0, c1, _⟩ := y0.two
      go_wp2_with (fail)
      refine hFF.out.mono ?_
      rintro e w5 ⟨A5, c5, rfl, ho5, hb5⟩
      have hb05 := bl_call hbS hb5
      go_wp2_with (fail)
      refine (HN2 _ (hrS.later hb5)).out.mono ?_
      rintro e w6 ⟨rfl, rfl⟩
      obtain ⟨b5, o5, rfl, _, hc5⟩ := (own_rd ho5).1.at_ (k := k) (by rw [ints_length, distL_len]; exact hkN)
      have hcell := hc5 k _ (ints_get (by rw [distL_len]; exact hkN))
      rw [distL_get _ hkN, hdf] at hcell
      clear hc5 hdf
      cases o with
      | none =>
        go_wp2_with (fail)
        go_ret2
        exact ⟨rfl, hb05⟩
      | some a =>
        have hal := hsm a rfl
        have hne : (a.2.length : Int) < 1000000 := by omega
        simp only [] at hcell
        go_wp2_with (fail)
        go_ret2
        exact ⟨rfl, hb05⟩
    · have e1 : swapG Z l p i j = false := by
        rw [swapG, h1]
        cases hzi : zoneOk p.length i <;> cases hzj : zoneOk p.length j <;> simp_all
      have e2 : swapE Z l p i j = 4 := by rw [swapE, if_pos h1, if_neg hz]
      have hor : i < 0 ∨ ¬ i < 0 ∧ i ≥ (p.length : Int) ∨ ¬ i < 0 ∧ ¬ i ≥ (p.length : Int) ∧ j < 0 ∨ ¬ i < 0 ∧ ¬ i ≥ (p.length : Int) ∧ ¬ j < 0 ∧ j ≥ (p.length : Int) := by
        by_cases q1 : i < 0
        · exact .inl q1
        · by_cases q2 : i ≥ (p.length : Int)
          · exact .inr (.inl ⟨q1, q2⟩)
          · by_cases q3 : j < 0
            · exact .inr (.inr (.inl ⟨q1, q2, q3⟩))
            · refine .inr (.inr (.inr ⟨q1, q2, q3, ?_⟩))
              refine Classical.byContradiction fun q4 => hz ?_
              rw [zoneOk_iff.2 ⟨by omega, by omega⟩, zoneOk_iff.2 ⟨by omega, by omega⟩]; rfl
      rw [e1, e2]
      rw [h1] at HV
      clear e1 e2 h1 hz
      rcases hor with q1 | ⟨q1, q2⟩ | ⟨q1, q2, q3⟩ | ⟨q1, q2, q3, q4⟩
      all_goals
        go_enter Try.func44, Try.ntmps44
        go_wp2_with (fail)
        refine HV.out.mono ?_
        rintro e w1 ⟨rfl, hb1⟩
        go_wp2_with (fail)
        go_ret2
        exact ⟨rfl, bl_call hb0 hb1⟩
  · have e1 : swapG Z l p i j = false := by simp [swapG, h1]
    have e2 : swapE Z l p i j = placeE Z l p := by simp [swapE, h1]
    rw [e1, e2]
    clear e1 e2
    generalize placeE Z l p = te at *
    go_enter Try.func44, Try.ntmps44
    go_wp2_with (fail)
    refine HV.out.mono ?_
    rintro e w1 ⟨rfl, hb1⟩
    go_wp2_with (fail)
    go_ret2
    exact ⟨rfl, bl_call hb0 hb1⟩
end Go.Proofs.Ytjgpfnnokdcgoaa
