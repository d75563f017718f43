/- Mathematics of layers: the gates of each level in their order; lists of gates in ascending order. -/
import Derived.Test.YteoajadcdjaalaaLev
import Derived.Test.YteoajadcdjaalaaSmall
import Derived.Sort.LotA
namespace Go.Proofs.Yteoajadcdjaalaa
open Go.RowKit

/-- How many layers the first i levels make. -/
def cntTo (lv : List Int) : Nat → Nat
  | 0 => 0
  | i + 1 => max (cntTo lv i) ((lv.getD i 0).toNat + 1)
/-- The gates of level L among the first i. -/
def rowTo (l : List G) (lv : List Int) : Nat → Nat → List G
  | 0, _ => []
  | i + 1, L => if (lv.getD i 0).toNat = L then rowTo l lv i L ++ [l.getD i g0] else rowTo l lv i L
def tabTo (l : List G) (lv : List Int) (i : Nat) : List (List G) := (List.range (cntTo lv i)).map (rowTo l lv i)

theorem tabTo_len (l : List G) (lv : List Int) (i : Nat) : (tabTo l lv i).length = cntTo lv i := by simp [tabTo]
theorem tabTo_get (l : List G) (lv : List Int) {i L : Nat} (h : L < cntTo lv i) : (tabTo l lv i).getD L [] = rowTo l lv i L := by
  simp [tabTo, h]
theorem rowTo_out (l : List G) (lv : List Int) : ∀ (i L : Nat), cntTo lv i ≤ L → rowTo l lv i L = []
  | 0, _, _ => rfl
  | i + 1, L, h => by
    have h' : max (cntTo lv i) ((lv.getD i 0).toNat + 1) ≤ L := h
    rw [rowTo, if_neg (by omega)]
    exact rowTo_out l lv i L (by omega)
theorem rowTo_len (l : List G) (lv : List Int) : ∀ (i L : Nat), (rowTo l lv i L).length ≤ i
  | 0, _ => by simp [rowTo]
  | i + 1, L => by
    have := rowTo_len l lv i L
    rw [rowTo]; split <;> simp <;> omega
/-- A new layer. -/
theorem tabTo_new (l : List G) (lv : List Int) {i : Nat} (h : (lv.getD i 0).toNat = cntTo lv i) : tabTo l lv (i + 1) = tabTo l lv i ++ [[l.getD i g0]] := by
  have hc : cntTo lv (i + 1) = cntTo lv i + 1 := by rw [cntTo, h]; omega
  rw [tabTo, hc, List.range_succ, List.map_append, List.map_cons, List.map_nil]
  have h1 : (List.range (cntTo lv i)).map (rowTo l lv (i + 1)) = tabTo l lv i := by
    refine List.map_congr_left fun L hL => ?_
    have hL' : L < cntTo lv i := by simpa using hL
    rw [rowTo, if_neg (by omega)]
  have h2 : rowTo l lv (i + 1) (cntTo lv i) = [l.getD i g0] := by
    rw [rowTo, if_pos h, rowTo_out l lv i _ (Nat.le_refl _)]; rfl
  rw [h1, h2]
/-- A layer that is there. -/
theorem tabTo_old (l : List G) (lv : List Int) {i : Nat} (h : (lv.getD i 0).toNat < cntTo lv i) :
    tabTo l lv (i + 1) = (tabTo l lv i).set (lv.getD i 0).toNat ((tabTo l lv i).getD (lv.getD i 0).toNat [] ++ [l.getD i g0]) := by
  have hc : cntTo lv (i + 1) = cntTo lv i := by rw [cntTo]; omega
  rw [tabTo_get l lv h]
  apply List.ext_getElem
  · simp [tabTo_len, hc]
  · intro L h1 h2
    have hL : L < cntTo lv i := by rw [tabTo_len, hc] at h1; exact h1
    rw [List.getElem_set]
    simp only [tabTo, List.getElem_map, List.getElem_range]
    by_cases e : (lv.getD i 0).toNat = L
    · rw [if_pos e, rowTo, if_pos e, e]
    · rw [if_neg e, rowTo, if_neg e]

theorem cntTo_congr {p q : List Int} : ∀ {i : Nat}, (∀ k, k < i → p.getD k 0 = q.getD k 0) → cntTo p i = cntTo q i
  | 0, _ => rfl
  | i + 1, h => by rw [cntTo, cntTo, cntTo_congr (fun k hk => h k (by omega)), h i (by omega)]
theorem lvTo_cnt (l : List G) (p : List Int) (i : Nat) (hp : ∀ k, 0 ≤ p.getD k 0 ∧ p.getD k 0 ≤ k) : ∀ j, lvTo l p i j ≤ cntTo p j
  | 0 => by simp [lvTo, cntTo]
  | j + 1 => by
    have h := lvTo_cnt l p i hp j
    have h2 := hp j
    rw [lvTo, cntTo]; split <;> omega
theorem lvL_pre (l : List G) {k : Nat} : ∀ {n : Nat}, k < n → (lvL l n).getD k 0 = lvTo l (lvL l k) k k
  | 0, h => by omega
  | n + 1, h => by
    rw [lvL]
    by_cases hk : k < n
    · rw [List.getD_eq_getElem?_getD, List.getElem?_append_left (by rw [lvL_len]; exact hk), ← List.getD_eq_getElem?_getD]; exact lvL_pre l hk
    · obtain rfl : k = n := by omega
      rw [List.getD_eq_getElem?_getD, List.getElem?_append_right (by rw [lvL_len]; omega), lvL_len]; simp
/-- No level lies above the number of the layers before it. -/
theorem lvL_cnt (l : List G) {i n : Nat} (h : i < n) : ((lvL l n).getD i 0).toNat ≤ cntTo (lvL l n) i := by
  have h1 := lvTo_cnt l (lvL l i) i (lvL_range l i) i
  have h2 : cntTo (lvL l n) i = cntTo (lvL l i) i := cntTo_congr fun k hk => by rw [lvL_pre l (by omega), lvL_pre l hk]
  rw [lvL_pre l h, h2]
  omega
theorem cntTo_le (lv : List Int) (hp : ∀ k, 0 ≤ lv.getD k 0 ∧ lv.getD k 0 ≤ k) : ∀ i, cntTo lv i ≤ i
  | 0 => Nat.le_refl _
  | i + 1 => by
    have := cntTo_le lv hp i
    have := hp i
    rw [cntTo]; omega

/-- Ascending order of gates. -/
def ltG (x y : G) : Bool := decide (cmpGG x y < 0)
theorem cmpI_tri (a b : Int) : (a < b ∧ cmpI a b = -1) ∨ (a = b ∧ cmpI a b = 0) ∨ (b < a ∧ cmpI a b = 1) := by
  unfold cmpI
  by_cases h1 : a < b
  · exact .inl ⟨h1, by rw [if_pos h1]⟩
  · by_cases h2 : b < a
    · exact .inr (.inr ⟨h2, by rw [if_neg h1, if_pos h2]⟩)
    · exact .inr (.inl ⟨by omega, by rw [if_neg h1, if_neg h2]⟩)
theorem orL_neg (xs : List Int) : orL (-1 :: xs) = -1 := rfl
theorem orL_pos (xs : List Int) : orL (1 :: xs) = 1 := rfl
theorem orL_zero (xs : List Int) : orL (0 :: xs) = orL xs := rfl
theorem ltG_iff (x y : G) : ltG x y = true ↔ x.1 < y.1 ∨ x.1 = y.1 ∧ (x.2.1 < y.2.1 ∨ x.2.1 = y.2.1 ∧ (x.2.2.1 < y.2.2.1 ∨ x.2.2.1 = y.2.2.1 ∧ x.2.2.2 < y.2.2.2)) := by
  unfold ltG cmpGG cmpG
  rw [decide_eq_true_eq]
  rcases cmpI_tri x.1 y.1 with ⟨h1, e1⟩ | ⟨h1, e1⟩ | ⟨h1, e1⟩ <;> rw [e1]
  · rw [orL_neg]; omega
  · rw [orL_zero]
    rcases cmpI_tri x.2.1 y.2.1 with ⟨h2, e2⟩ | ⟨h2, e2⟩ | ⟨h2, e2⟩ <;> rw [e2]
    · rw [orL_neg]; omega
    · rw [orL_zero]
      rcases cmpI_tri x.2.2.1 y.2.2.1 with ⟨h3, e3⟩ | ⟨h3, e3⟩ | ⟨h3, e3⟩ <;> rw [e3]
      · rw [orL_neg]; omega
      · rw [orL_zero]
        rcases cmpI_tri x.2.2.2 y.2.2.2 with ⟨h4, e4⟩ | ⟨h4, e4⟩ | ⟨h4, e4⟩ <;> rw [e4]
        · rw [orL_neg]; omega
        · rw [orL_zero]; simp only [orL]; omega
        · rw [orL_pos]; omega
      · rw [orL_pos]; omega
    · rw [orL_pos]; omega
  · rw [orL_pos]; omega
theorem swoG : Go.Sort.SWO ltG where
  irrefl x := by
    rw [← Bool.not_eq_true, ltG_iff]; omega
  trans x y z h1 h2 := by
    rw [ltG_iff] at *; omega
  ntrans x y z h1 h2 := by
    rw [← Bool.not_eq_true, ltG_iff] at *; omega
theorem ltG_eq (x y : G) (h1 : ltG x y = false) (h2 : ltG y x = false) : x = y := by
  rw [← Bool.not_eq_true, ltG_iff] at h1 h2
  obtain ⟨x1, x2, x3, x4⟩ := x
  obtain ⟨y1, y2, y3, y4⟩ := y
  simp only [Prod.mk.injEq]
  simp only [] at h1 h2
  omega
/-- A list of gates in ascending order. -/
def sortG (l : List G) : List G := l.mergeSort (fun x y => !ltG y x)
theorem sortG_len (l : List G) : (sortG l).length = l.length := List.length_mergeSort l
theorem sortG_one (x : G) : sortG [x] = [x] := by simp [sortG]
theorem sortG_ins (d : Array G) : (Go.Sort.insertionSort ltG d 0 d.size).toList = sortG d.toList := by
  have h := Go.Sort.insertionSort_holds (lt := ltG) swoG d 0 d.size (Nat.zero_le _) (Nat.le_refl _)
  have h2 : Go.Sort.SortedIn ltG 0 d.size (Go.Sort.insertionSort ltG d 0 d.size) := h.2
  exact Go.Sort.sorted_unique_holds swoG ltG_eq d _ h.1 (by rw [show d.size = d.size from rfl]; exact h2)
/-- The layers of a circuit. -/
def layL (l : List G) : List (List G) := (tabTo l (lvL l l.length) l.length).map sortG
end Go.Proofs.Yteoajadcdjaalaa
