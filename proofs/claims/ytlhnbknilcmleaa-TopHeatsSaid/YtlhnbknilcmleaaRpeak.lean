/- The document's Peak; tables compared. -/
import Derived.Test.YtlhnbknilcmleaaRtrc
import Derived.Test.YtlhnbknilcmleaaPeak
import Derived.Test.YtlhnbknilcmleaaKnownH
namespace Go.Proofs.Ytlhnbknilcmleaa
open Go.RowKit

def pkRow (s : Int) (r : List Int) : Nat → Int
  | 0 => s
  | j + 1 => max (pkRow s r j) (r.getD j 0)
def pkAll (ls : List (List Int)) : Nat → Int
  | 0 => 0
  | i + 1 => pkRow (pkAll ls i) (ls.getD i []) (ls.getD i []).length
theorem rowsT_get {m : Nat} {l : List T3} {k i : Nat} (h : i < k) : (rowsT m l k).getD i [] = rowT m l i := by simp [rowsT, h]
theorem rowT_get {m : Nat} {l : List T3} {k j : Nat} (h : j < m) : (rowT m l k).getD j 0 = heatO (l.take (k + 1)) (j : Int) := by simp [rowT, h]
theorem heat_none {ion : Int} : ∀ (l : List T3) (s : Int), (∀ a ∈ l, a.2.1 ≠ ion) → l.foldl (hstep ion) s = s
  | [], s, _ => rfl
  | a :: t, s, h => by
    rw [List.foldl_cons, hstep, if_neg (h a (by simp))]
    exact heat_none t s fun b hb => h b (by simp [hb])
theorem heat_high {m : Nat} {l : List T3} (hb : l.all (actB (m : Int)) = true) {ion : Int} (hi : (m : Int) ≤ ion) (k : Nat) : heatO (l.take k) ion = 0 := by
  refine heat_none _ _ fun a ha => ?_
  have h := List.all_eq_true.1 hb a (List.mem_of_mem_take ha)
  simp only [actB, Bool.and_eq_true, inB_z] at h
  obtain ⟨⟨⟨_, h2⟩, _⟩, _⟩ := h
  omega
theorem peak_same {m : Nat} {l : List T3} (hm1 : 1 ≤ m) (hm4 : m ≤ 4) (hb : l.all (actB (m : Int)) = true) : ∀ i, i ≤ l.length → pkAll (rowsT m l l.length) i = peakTo l i ∧ 0 ≤ peakTo l i
  | 0, _ => ⟨rfl, Int.le_refl _⟩
  | i + 1, hi => by
    obtain ⟨ih, h0⟩ := peak_same hm1 hm4 hb i (by omega)
    have ha : Acts l := all_acts (by omega) hb
    have r0 := (heatO_range (ha.take (i + 1)) 0).1
    have r1 := (heatO_range (ha.take (i + 1)) 1).1
    have r2 := (heatO_range (ha.take (i + 1)) 2).1
    have r3 := (heatO_range (ha.take (i + 1)) 3).1
    have hg := @rowsT_get m l l.length i (by omega)
    rw [pkAll, hg, ih, rowT_len, peakTo, heatMx]
    have z1 := fun h => heat_high hb (ion := 1) h (i + 1)
    have z2 := fun h => heat_high hb (ion := 2) h (i + 1)
    have z3 := fun h => heat_high hb (ion := 3) h (i + 1)
    have g := fun j (h : j < m) => @rowT_get m l i j h
    rcases (by omega : m = 1 ∨ m = 2 ∨ m = 3 ∨ m = 4) with rfl | rfl | rfl | rfl
    · have e1 := z1 (by decide); have e2 := z2 (by decide); have e3 := z3 (by decide)
      have g0 := g 0 (by omega)
      simp only [pkRow]
      rw [g0, e1, e2, e3]
      simp only [Int.natCast_zero] at *
      omega
    · have e2 := z2 (by decide); have e3 := z3 (by decide)
      have g0 := g 0 (by omega); have g1 := g 1 (by omega)
      simp only [pkRow]
      rw [g0, g1, e2, e3]
      simp only [Int.natCast_zero, Int.natCast_one] at *
      omega
    · have e3 := z3 (by decide)
      have g0 := g 0 (by omega); have g1 := g 1 (by omega); have g2 := g 2 (by omega)
      simp only [pkRow]
      rw [g0, g1, g2, e3]
      have c2 : ((2 : Nat) : Int) = 2 := rfl
      simp only [Int.natCast_zero, Int.natCast_one, c2] at *
      omega
    · have g0 := g 0 (by omega); have g1 := g 1 (by omega); have g2 := g 2 (by omega); have g3 := g 3 (by omega)
      simp only [pkRow]
      rw [g0, g1, g2, g3]
      have c2 : ((2 : Nat) : Int) = 2 := rfl
      have c3 : ((3 : Nat) : Int) = 3 := rfl
      simp only [Int.natCast_zero, Int.natCast_one, c2, c3] at *
      omega

set_option maxRecDepth 100000 in
set_option maxHeartbeats 1000000 in
theorem sameLists_c (A B : Option Addr) (hs hs' : List Value) (ls : List (List Int)) (base base' c d : Nat) (w : World) (hlen : ls.length ≤ 1000) (hr : Rd w A hs) (hs0 : Rd w B hs') (ht : Tab w base hs ls) (ht' : Tab w base' hs' ls) (hrow : ∀ k, k < ls.length → (ls.getD k []).length ≤ 1000) :
    Calls Try.prog 26 #[.slice A ls.length c, .slice B ls.length d] w fun e w' => e = .returned (.bool true) ∧ Below w.heap.size w w' := by
  go_enter Try.func26, Try.ntmps26
  go_wp2_with (fail)
  go_loopg [5] ls.length (fun gk iv wr => ∃ k : Nat, Hid (k + gk = ls.length) ∧ iv = .int .i64 (k : Int) ∧ Below w.heap.size w wr)
  case atStart => exact ⟨0, by simp [Hid], rfl, Below.refl _ _⟩
  case round =>
    obtain ⟨k, HK, rfl, hb⟩ := hrel
    rcases gk with _ | gi
    · obtain rfl : k = ls.length := HK.out
      go_wp2_with (fail)
      go_ret
      exact ⟨rfl, hb⟩
    · have hkl : k < ls.length := by have := HK.out; omega
      have hkl' : (k : Int) < (ls.length : Int) := by omega
      obtain ⟨A1, c1, v1, o1⟩ := (ht.call hb).2 k hkl
      obtain ⟨A2, c2, v2, o2⟩ := (ht'.call hb).2 k hkl
      obtain ⟨b, o, rfl, hbl, hc⟩ := (hr.later hb).at_ (k := k) (by rw [ht.1]; exact hkl)
      obtain ⟨b', o', rfl, hbl', hc'⟩ := (hs0.later hb).at_ (k := k) (by rw [ht'.1]; exact hkl)
      have d1 := hc _ _ v1
      have d2 := hc' _ _ v2
      have r1 := (own_rd o1).1
      have r2 := (own_rd o2).1
      have hw1 := hrow k hkl
      generalize ls.getD k [] = R at *
      have HC : Hid (∀ W, Below wr.heap.size wr W → W.cell? ⟨b, o + k, none⟩ = some (.slice A1 R.length c1) ∧ W.cell? ⟨b', o' + k, none⟩ = some (.slice A2 R.length c2)) := fun W hW => ⟨(hW.cell (p := ⟨b, o + k, none⟩) hbl).trans d1, (hW.cell (p := ⟨b', o' + k, none⟩) hbl').trans d2⟩
      have HSI := fun W (hW : Below wr.heap.size wr W) => Lib.hid (sameInts_c A1 A2 R R c1 c2 W (by omega) (r1.later hW) (r2.later hW))
      rw [decide_eq_true (rfl : R = R)] at HSI
      have hCC : Below wr.heap.size wr wr.drew := (Below.refl _ _).drew
      clear hc hc' d1 d2 v1 v2 o1 o2 r1 r2 hrow ht ht'
      go_wp2_with (fail)
      refine wp_region_low (hCC) (by kernel_rfl) (by kernel_rfl) ?_
      repeat (first
        | go_big_quiet_skip
        | (go_big_quiet_want
           apply Exists.intro
           refine And.intro (fun W hW => ?_) ?_
           · (obtain ⟨p0, p1⟩ := HC.out W hW)
             go_simp
             first
               | exact rfl
               | ((refine (HSI W hW).out.mono ?_; rintro e w1 ⟨rfl, hb1⟩; exact ⟨rfl, bl_call hW hb1⟩))
           try go_simp
           go_big_quiet_on))
      refine wpQuiet_nil ?_
      intro w9 hb9
      go_wp2_with (fail)
      go_roundg gi
      case rel => exact ⟨k + 1, by have := HK.out; show _ = _; omega, by go_num, bl_call hb hb9⟩
      case measure => omega
end Go.Proofs.Ytlhnbknilcmleaa
