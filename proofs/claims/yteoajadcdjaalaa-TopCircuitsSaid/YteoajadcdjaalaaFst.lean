/- The document's SameInts and Firsts. The free gates are those of level 0. -/
import Derived.Test.YteoajadcdjaalaaRfirst
import Derived.WalkSmall
namespace Go.Proofs.Yteoajadcdjaalaa
open Go.RowKit

theorem take_same {p q : List Int} {k : Nat} (hp : k < p.length) (hq : k < q.length) (h : p.take k = q.take k) (he : p.getD k 0 = q.getD k 0) : p.take (k + 1) = q.take (k + 1) := by
  rw [List.take_succ_eq_append_getElem hp, List.take_succ_eq_append_getElem hq, h]
  simp [hp, hq] at he
  rw [he]
theorem not_same {p q : List Int} {k : Nat} (he : p.getD k 0 ≠ q.getD k 0) : decide (p = q) = false := by
  simp only [decide_eq_false_iff_not]
  rintro rfl
  exact he rfl

set_option maxHeartbeats 1000000 in
theorem sameInts_c (A B : Option Addr) (p q : List Int) (cap cap' : Nat) (w : World) (hlen : p.length ≤ 9223372036854775806) (hr : Rd w A (ints p)) (hq : Rd w B (ints q)) :
    Calls Try.prog 38 #[.slice A p.length cap, .slice B q.length cap'] w fun e w' => e = .returned (.bool (decide (p = q))) ∧ Below w.heap.size w w' := by
  by_cases hl : p.length = q.length
  · have hne : ((p.length : Int) != (q.length : Int)) = false := by simp [hl]
    have HL := Lib.hid hl
    clear hl
    go_enter Try.func38, Try.ntmps38
    go_wp2
    go_loopw [5] (fun i wr => ∃ k : Nat, k ≤ p.length ∧ i = .int .i64 k ∧ Hid (p.take k = q.take k) ∧ Below w.heap.size w wr) (fun i _ => p.length - (intOf i).toNat)
    case atStart => exact ⟨0, Nat.zero_le _, rfl, by simp [Hid], Below.refl _ _⟩
    case round =>
      obtain ⟨k, hk, rfl, ht, hb⟩ := hrel
      by_cases hlt : k < p.length
      · have hlt' : k < q.length := by have := HL.out; omega
        obtain ⟨b, o, rfl, _, hc⟩ := (hr.later hb).at_ (k := k) (by simpa using hlt)
        obtain ⟨b', o', rfl, _, hc'⟩ := (hq.later hb).at_ (k := k) (by simpa using hlt')
        have hck := hc k _ (ints_get hlt)
        have hck' := hc' k _ (ints_get hlt')
        clear hc hc'
        have H1 := Lib.hid (take_same hlt hlt' ht.out)
        have H2 := Lib.hid (@not_same p q k)
        generalize p.getD k 0 = f at hck H1 H2
        generalize q.getD k 0 = g at hck' H1 H2
        by_cases hfg : (f != g) = true
        · go_wp2
          go_quiet (fail)
          go_wp2
          go_ret
          exact ⟨ret_b (H2.out (by simpa using hfg)), below_drewN hb _⟩
        · have hfg' : (f != g) = false := by simpa using hfg
          clear hfg
          go_wp2
          go_quiet (fail)
          go_wp2
          go_roundw
          case rel => exact ⟨k + 1, by omega, by go_num, H1.out (by simpa using hfg'), below_drewN hb _⟩
          case measure => simp [intOf]; omega
      · obtain rfl : k = p.length := by omega
        go_wp2
        go_ret
        exact ⟨ret_b (by have h := ht.out; rw [List.take_length, HL.out, List.take_length] at h; simp [h]), hb⟩
  · have hne : ((p.length : Int) != (q.length : Int)) = true := by simp; omega
    have hd : decide (p = q) = false := by simp only [decide_eq_false_iff_not]; rintro rfl; exact hl rfl
    go_enter Try.func38, Try.ntmps38
    go_wp2
    go_ret
    exact ⟨ret_b hd, Below.refl _ _⟩


def rfirstsG (n : Int) (l : List G) : List Int := if validE n l = 0 then frTo l l.length else []
set_option maxRecDepth 100000 in
theorem rFirsts_c (n : Int) (A : Option Addr) (l : List G) (c : Nat) (w : World) (hlen : l.length ≤ 1000) (hr : Rd w A (cellsG l)) :
    Calls Try.prog 37 #[.int .i64 n, .slice A l.length c] w fun e w' => ∃ A' c', e = .returned (.tuple #[.slice A' (rfirstsG n l).length c', .int .i64 (validE n l)]) ∧ w'.ownsRow w.heap.size 3 1 (.slice A' (rfirstsG n l).length c') (rfirstsG n l).length (ints (rfirstsG n l)) ∧ Below w.heap.size w w' := by
  have HV := Lib.hid (rvalidate_c n A l c w hlen hr)
  by_cases hv : validE n l = 0
  · have HS := fun (w1 : World) (h : Rd w1 A (cellsG l)) => Lib.hid (rfirsts_c A l c w1 hlen (validE_gs hv) h)
    have HB : rfirstsG n l = frTo l l.length := by rw [rfirstsG, if_pos hv]
    rw [hv] at HV
    rw [hv, HB]
    clear HB
    generalize frTo l l.length = F at *
    go_enter Try.func37, Try.ntmps37
    go_wp2_with (go_at_call 25; refine HV.out.mono ?_; rintro e w1 ⟨rfl, hb1⟩)
    refine (HS _ (hr.later hb1)).out.mono ?_
    rintro e w2 ⟨A2, c2, rfl, ho2, hb2⟩
    go_wp2_with (fail)
    go_ret2
    exact ⟨A2, c2, rfl, own_base' ho2 hb1.size, bl_call hb1 hb2⟩
  · have HB : rfirstsG n l = [] := by rw [rfirstsG, if_neg hv]
    rw [HB]
    clear HB
    generalize validE n l = ev at hv HV
    go_enter Try.func37, Try.ntmps37
    go_wp2_with (go_at_call 25; refine HV.out.mono ?_; rintro e w1 ⟨rfl, hb1⟩)
    go_ret2
    exact ⟨none, 0, rfl, World.ownsRow_nil _ _ _ _, hb1⟩

theorem lvTo_zero (l : List G) (p : List Int) (i : Nat) (hp : ∀ k, 0 ≤ p.getD k 0 ∧ p.getD k 0 ≤ k) : ∀ j, lvTo l p i j = 0 ↔ freeTo l i j = true
  | 0 => by simp [lvTo, freeTo]
  | j + 1 => by
    have ih := lvTo_zero l p i hp j
    have h1 := hp j
    have h2 := lvTo_range l p i hp j
    rw [lvTo, freeTo_succ]
    cases tiedG (l.getD j g0) (l.getD i g0)
    · simpa using ih
    · have h3 : 0 ≤ p.getD j 0 := h1.1
      rw [if_pos rfl]
      generalize p.getD j 0 = y at *
      constructor
      · intro e; omega
      · intro e; simp at e
theorem lvL_zero (l : List G) {i n : Nat} (h : i < n) : (lvL l n).getD i 0 = 0 ↔ freeB l i = true := by
  rw [lvL_pre l h, lvTo_zero l _ i (lvL_range l i)]; rfl
theorem firstsTo_fr (l : List G) : ∀ k, k ≤ l.length → firstsTo l k = frTo l k
  | 0, _ => rfl
  | k + 1, h => by
    rw [firstsTo, frTo, firstsTo_fr l k (by omega)]
    have := lvL_zero l (i := k) (n := l.length) (by omega)
    by_cases hf : freeB l k = true
    · rw [if_pos (this.2 hf), if_pos hf]
    · rw [if_neg (fun e => hf (this.1 e)), if_neg hf]
theorem firstsG_eq (n : Int) (l : List G) : firstsG n l = rfirstsG n l := by
  rw [firstsG, rfirstsG]; split
  · exact firstsTo_fr l _ (Nat.le_refl _)
  · rfl
/-- The first layer has as many gates as there are free ones. -/
theorem row_zero (l : List G) : ∀ i, i ≤ l.length → (rowTo l (lvL l l.length) i 0).length = (frTo l i).length
  | 0, _ => rfl
  | i + 1, h => by
    have ih := row_zero l i (by omega)
    have h1 := lvL_zero l (i := i) (n := l.length) (by omega)
    have h2 := (lvL_range l l.length i).1
    rw [rowTo, frTo]
    by_cases hf : freeB l i = true
    · rw [if_pos hf, if_pos (by rw [h1.2 hf]; rfl)]; simp [ih]
    · rw [if_neg hf, if_neg (fun e => hf (h1.1 (by omega)))]; exact ih
theorem cnt_pos (lv : List Int) : ∀ i, 0 < i → 0 < cntTo lv i
  | 0, h => by omega
  | i + 1, _ => by rw [cntTo]; omega
theorem lay_first {l : List G} (h : 0 < l.length) : 0 < (layL l).length ∧ ((layL l).getD 0 []).length = (frTo l l.length).length := by
  have hc := cnt_pos (lvL l l.length) l.length h
  have hl : (layL l).length = cntTo (lvL l l.length) l.length := by rw [layL, List.length_map, tabTo_len]
  refine ⟨by omega, ?_⟩
  have hg := tabTo_get l (lvL l l.length) (i := l.length) (L := 0) hc
  have e : (layL l).getD 0 [] = sortG ((tabTo l (lvL l l.length) l.length).getD 0 []) := by
    rw [layL]
    have : 0 < (tabTo l (lvL l l.length) l.length).length := by rw [tabTo_len]; exact hc
    simp [this]
  rw [e, sortG_len, hg, row_zero l _ (Nat.le_refl _)]
theorem lay_nil {l : List G} (h : l.length = 0) : layL l = [] := by
  rw [List.length_eq_zero_iff.1 h]; rfl
end Go.Proofs.Yteoajadcdjaalaa
