/- Peaks by ions; what the top law of heats asks of a plan and a limit. -/
import Derived.Test.YtlhnbknilcmleaaRpeak
import Derived.Test.YtlhnbknilcmleaaHeatP
import Derived.Test.YtlhnbknilcmleaaHeatC
import Derived.Test.YtlhnbknilcmleaaHeatN
import Derived.Test.YtlhnbknilcmleaaHeatW
namespace Go.Proofs.Ytlhnbknilcmleaa

def pkQ (l : List T3) (ion : Int) : Nat → Int
  | 0 => 0
  | k + 1 => max (pkQ l ion k) (heatO (l.take (k + 1)) ion)
theorem ext_le {a b : Int} (h : ∀ x, a ≤ x ↔ b ≤ x) : a = b := Int.le_antisymm ((h b).2 (Int.le_refl _)) ((h a).1 (Int.le_refl _))
theorem peakTo_ions (l : List T3) : ∀ k, peakTo l k = max (max (max (pkQ l 0 k) (pkQ l 1 k)) (pkQ l 2 k)) (pkQ l 3 k)
  | 0 => rfl
  | k + 1 => by
    rw [peakTo, peakTo_ions l k, heatMx, pkQ, pkQ, pkQ, pkQ]
    refine ext_le fun x => ?_
    simp only [Int.max_le]
    omega
theorem pkQ_range (l : List T3) (ion : Int) : ∀ k, 0 ≤ pkQ l ion k
  | 0 => Int.le_refl _
  | k + 1 => by have := pkQ_range l ion k; rw [pkQ]; omega
theorem peakTo_app (l m : List T3) : ∀ k, k ≤ l.length → peakTo (l ++ m) k = peakTo l k
  | 0, _ => rfl
  | k + 1, h => by rw [peakTo, peakTo_app l m k (by omega), peakTo, List.take_append_of_le_length h]
theorem heatMx_only {l : List T3} (ha : Acts l) {ion : Int} (h0 : 0 ≤ ion) (h3 : ion ≤ 3) : heatMx (l.filter fun a => a.2.1 == ion) = heatO l ion := by
  have hs : heatO (l.filter fun a => a.2.1 == ion) ion = heatO l ion := honly_same ion l 0
  have ho : ∀ i : Int, i ≠ ion → heatO (l.filter fun a => a.2.1 == ion) i = 0 := fun i hne => honly_other hne l 0
  have hr := (heatO_range ha ion).1
  rw [heatMx]
  rcases (by omega : ion = 0 ∨ ion = 1 ∨ ion = 2 ∨ ion = 3) with rfl | rfl | rfl | rfl
  · rw [hs, ho 1 (by decide), ho 2 (by decide), ho 3 (by decide)]; omega
  · rw [hs, ho 0 (by decide), ho 2 (by decide), ho 3 (by decide)]; omega
  · rw [hs, ho 0 (by decide), ho 1 (by decide), ho 3 (by decide)]; omega
  · rw [hs, ho 0 (by decide), ho 1 (by decide), ho 2 (by decide)]; omega
theorem peak_only {l : List T3} (ha : Acts l) {ion : Int} (h0 : 0 ≤ ion) (h3 : ion ≤ 3) : ∀ k, k ≤ l.length → peakTo ((l.take k).filter fun a => a.2.1 == ion) ((l.take k).filter fun a => a.2.1 == ion).length = pkQ l ion k ∧ heatO (l.take k) ion ≤ pkQ l ion k
  | 0, _ => ⟨by simp [peakTo, pkQ], by simp [heatO, pkQ]⟩
  | k + 1, hk => by
    have hk' : k < l.length := by omega
    obtain ⟨ih, ih2⟩ := peak_only ha h0 h3 k (by omega)
    have hm := heatMx_only (ha.take (k + 1)) h0 h3
    have hs := heatO_succ (l := l) (k := k) ion hk'
    have ht : l.take (k + 1) = l.take k ++ [l.getD k t0] := by rw [List.take_succ_eq_append_getElem hk']; simp [hk']
    refine ⟨?_, by rw [pkQ]; omega⟩
    rw [pkQ]
    by_cases e : (l.getD k t0).2.1 = ion
    · have hf : (l.take (k + 1)).filter (fun a => a.2.1 == ion) = (l.take k).filter (fun a => a.2.1 == ion) ++ [l.getD k t0] := by
        rw [ht, List.filter_append, List.filter_cons_of_pos (by simpa using e), List.filter_nil]
      rw [hf] at hm ⊢
      rw [List.length_append, List.length_singleton, peakTo, peakTo_app _ _ _ (Nat.le_refl _), ih, List.take_of_length_le (by simp), hm]
    · have hf : (l.take (k + 1)).filter (fun a => a.2.1 == ion) = (l.take k).filter (fun a => a.2.1 == ion) := by
        rw [ht, List.filter_append, List.filter_cons_of_neg (by simpa using e), List.filter_nil, List.append_nil]
      have hh : heatO (l.take (k + 1)) ion = heatO (l.take k) ion := by rw [hs, hstep, if_neg e]
      rw [hf, ih, hh]; omega
/-- The greatest peak of the first k ions alone. -/
def farF (l : List T3) : Nat → Int
  | 0 => 0
  | k + 1 => max (farF l k) (pkQ l (k : Int) l.length)
theorem pkQ_high {m : Nat} {l : List T3} (hb : l.all (actB (m : Int)) = true) {ion : Int} (hi : (m : Int) ≤ ion) : ∀ k, pkQ l ion k = 0
  | 0 => rfl
  | k + 1 => by rw [pkQ, pkQ_high hb hi k, heat_high hb hi]; omega
theorem farF_all {m : Nat} {l : List T3} (hm1 : 1 ≤ m) (hm4 : m ≤ 4) (hb : l.all (actB (m : Int)) = true) : farF l m = peakTo l l.length := by
  have r0 := pkQ_range l 0 l.length
  have r1 := pkQ_range l 1 l.length
  have r2 := pkQ_range l 2 l.length
  have r3 := pkQ_range l 3 l.length
  rw [peakTo_ions]
  have c1 : ((1 : Nat) : Int) = 1 := rfl
  have c2 : ((2 : Nat) : Int) = 2 := rfl
  have c3 : ((3 : Nat) : Int) = 3 := rfl
  rcases (by omega : m = 1 ∨ m = 2 ∨ m = 3 ∨ m = 4) with rfl | rfl | rfl | rfl
  · have e1 := pkQ_high hb (ion := 1) (by decide) l.length
    have e2 := pkQ_high hb (ion := 2) (by decide) l.length
    have e3 := pkQ_high hb (ion := 3) (by decide) l.length
    simp only [farF, Int.natCast_zero]
    omega
  · have e2 := pkQ_high hb (ion := 2) (by decide) l.length
    have e3 := pkQ_high hb (ion := 3) (by decide) l.length
    simp only [farF, Int.natCast_zero, c1]
    omega
  · have e3 := pkQ_high hb (ion := 3) (by decide) l.length
    simp only [farF, Int.natCast_zero, c1, c2]
    omega
  · simp only [farF, Int.natCast_zero, c1, c2, c3]
    omega
theorem least_peak {l : List T3} (ha : Acts l) : ∀ k, k ≤ l.length → leastTo l k ≤ peakTo l k
  | 0, _ => Int.le_refl _
  | k + 1, hk => by
    have hk' : k < l.length := by omega
    have ih := least_peak ha k (by omega)
    have hx := ha.get hk'
    have hg : gateH l k ≤ heatMx (l.take (k + 1)) := by
      rw [gateH, heatMx]
      have r0 := (heatO_range (ha.take (k + 1)) 0).1
      split
      · rename_i h1
        have hs := heatO_succ (l := l) (k := k) (l.getD k t0).2.1 hk'
        rw [hstep, if_pos rfl, if_neg (by rw [h1]; decide)] at hs
        have h0 := hx.h0
        have i0 := hx.i0
        have i3 := hx.i3
        generalize (l.getD k t0).2.1 = ion at *
        generalize (l.getD k t0).2.2 = x at *
        rcases (by omega : ion = 0 ∨ ion = 1 ∨ ion = 2 ∨ ion = 3) with rfl | rfl | rfl | rfl <;> omega
      · omega
    show max (leastTo l k) (gateH l k) ≤ max (peakTo l k) (heatMx (l.take (k + 1)))
    omega
theorem top_facts {n : Int} {l : List T3} {lim : Int} (h : limE n l lim = 0) :
    (few lim l = 0 ↔ hotL lim l = []) ∧ (hotL lim l = [] ↔ leastTo l l.length ≤ lim) ∧ leastTo l l.length ≤ peakTo l l.length ∧ few lim l ≤ (hotL lim l).length ∧
    (∀ i : Nat, lim = i → (i < (curveL l).length → (curveL l).getD i 0 = few lim l) ∧ ((curveL l).length ≤ i → few lim l = 0)) ∧
    ((insL lim l).length ≤ 20 → limE n (insL lim l) lim = 0 ∧ few lim (insL lim l) = 0) := by
  obtain ⟨hv, hl0, hl1⟩ := limE_zero.1 h
  have ha := validE_acts hv
  obtain ⟨e1, e2⟩ := insL_check h
  obtain ⟨_, _, i1, _, i2⟩ := insE_zero.1 e1
  have hn := (validE_zero.1 hv).1
  refine ⟨few_zero ha, least_cold hl0 l.length, least_peak ha _ (Nat.le_refl _), ?_, fun i hi => ?_, fun h20 => ?_⟩
  · have := few_hot (lim := lim) ha l.length (Nat.le_refl _)
    rw [List.take_length] at this
    exact this
  · subst hi
    exact ⟨fun h => curveL_get l i h, fun h => curveL_end ha i h (by omega)⟩
  · exact ⟨limE_zero.2 ⟨validE_zero.2 ⟨hn, h20, i1⟩, hl0, hl1⟩, (few_zero (all_acts hn.2 i1)).2 i2⟩
end Go.Proofs.Ytlhnbknilcmleaa
