/- Whether a choice has two fixes of one item: package budget's. -/
import Derived.Test.YtgbjglkiaoplmaaCho
namespace Go.Proofs.Ytgbjglkiaoplmaa
open Go.RowKit

theorem Rd.one {w : World} {A : Option Addr} {l : List Int} (h : Rd w A (ints l)) {k : Nat} (hk : k < l.length) : ∃ b o, A = some ⟨b, o, none⟩ ∧ b < w.heap.size ∧ w.cell? ⟨b, o + k, none⟩ = some (.int .i64 (l.getD k 0)) := by
  obtain ⟨b, o, rfl, hb, hc⟩ := h.at_ (k := k) (by simpa using hk)
  exact ⟨b, o, rfl, hb, hc k _ (ints_get hk)⟩
/-- Whether one of the first k fixes of a choice is of the item i. -/
def seenB (fs : List Fx) (c : List Int) : Nat → Nat → Bool
  | 0, _ => false
  | k + 1, i => seenB fs c k i || decide (itemF fs (c.getD k 0) = (i : Int))
def rowS (fs : List Fx) (c : List Int) (k : Nat) : Array Value := #[.bool (seenB fs c k 0), .bool (seenB fs c k 1), .bool (seenB fs c k 2), .bool (seenB fs c k 3), .bool (seenB fs c k 4), .bool (seenB fs c k 5)]
theorem six {P : Nat → Prop} (h0 : P 0) (h1 : P 1) (h2 : P 2) (h3 : P 3) (h4 : P 4) (h5 : P 5) : ∀ i, i < 6 → P i := fun i hi => by
  have : i = 0 ∨ i = 1 ∨ i = 2 ∨ i = 3 ∨ i = 4 ∨ i = 5 := by omega
  rcases this with rfl | rfl | rfl | rfl | rfl | rfl <;> assumption
theorem rowS_get (fs : List Fx) (c : List Int) (k : Nat) : ∀ i, i < 6 → (rowS fs c k)[i]? = some (.bool (seenB fs c k i)) := six rfl rfl rfl rfl rfl rfl
theorem rowS_set {fs : List Fx} {c : List Int} {k : Nat} : ∀ i, i < 6 → itemF fs (c.getD k 0) = ((i : Nat) : Int) → (rowS fs c k).setIfInBounds i (.bool true) = rowS fs c (k + 1) := by
  refine six ?_ ?_ ?_ ?_ ?_ ?_ <;> intro h <;> unfold rowS <;> simp only [seenB] <;> rw [h] <;> simp
theorem new_seen {fs : List Fx} {c : List Int} {k i : Nat} (h : itemF fs (c.getD k 0) = (i : Int)) : ∀ j, newF fs c k j = !seenB fs c j i
  | 0 => rfl
  | j + 1 => by
    rw [newF, seenB, new_seen h j, h]
    have : decide ((i : Int) = itemF fs (c.getD j 0)) = decide (itemF fs (c.getD j 0) = (i : Int)) := by rw [Bool.eq_iff_iff, decide_eq_true_eq, decide_eq_true_eq]; exact eq_comm
    rw [this, Bool.not_or]
theorem diff_mono {fs : List Fx} {c : List Int} {k : Nat} (h : diffB fs c k = false) : ∀ n, k ≤ n → diffB fs c n = false
  | 0, hn => by obtain rfl : k = 0 := by omega
                exact h
  | n + 1, hn => by
    rcases Nat.eq_or_lt_of_le hn with h' | h'
    · rw [← h']; exact h
    · rw [diffB, diff_mono h n (by omega)]; rfl
set_option maxRecDepth 100000 in
set_option maxHeartbeats 2000000 in
theorem hasTwo_c (B : Option Addr) (fs : List Fx) (cap : Nat) (C : Option Addr) (c : List Int) (cap2 : Nat) (w : World) (hlen : c.length ≤ 1000)
    (hc : ∀ k, k < c.length → 0 ≤ c.getD k 0 ∧ c.getD k 0 < fs.length) (hi : ∀ k, k < fs.length → 0 ≤ (fs.getD k fx0).i ∧ (fs.getD k fx0).i < 6) (hf : Rd w B (cellsF fs)) (hr : Rd w C (ints c)) :
    Calls Try.prog 102 #[.slice B fs.length cap, .slice C c.length cap2] w fun e w' => e = .returned (.bool (!diffB fs c c.length)) ∧ Below w.heap.size w w' := by
  have hb0 := bl_alloc (Below.refl w.heap.size w) (.cells #[.bool false, .bool false, .bool false, .bool false, .bool false, .bool false] 126)
  have x0 : Bx (w.alloc (.cells #[.bool false, .bool false, .bool false, .bool false, .bool false, .bool false] 126)) w.heap.size 126 (rowS fs c 0) := Bx.new w _ _
  have HF := Lib.hid (fun k (h : diffB fs c (k + 1) = false) (hk : k < c.length) => diff_mono h c.length hk)
  have HD : Hid (∀ k, diffB fs c (k + 1) = (diffB fs c k && newF fs c k k)) := fun k => rfl
  have HA : Hid (diffB fs c 0 = true) := rfl
  have HC := Lib.hid hc
  have HI := Lib.hid hi
  clear hc hi
  go_enter Try.func102, Try.ntmps102
  go_wp2_with (fail)
  go_loopg [11] c.length (fun gk iv wr => ∃ k : Nat, Hid (k + gk = c.length) ∧ iv = .int .i64 (k : Int) ∧ Hid (diffB fs c k = true) ∧ Bx wr w.heap.size 126 (rowS fs c k) ∧ Below w.heap.size w wr)
  case atStart => exact ⟨0, by simp [Hid], rfl, HA, x0, hb0⟩
  case round =>
    clear x0 hb0
    obtain ⟨k, HK, rfl, HDk, hx, hb⟩ := hrel
    rcases gk with _ | gi
    · obtain rfl : k = c.length := HK.out
      go_wp2_with (fail)
      go_ret
      exact ⟨by rw [HDk.out]; rfl, hb⟩
    · have hkN : k < c.length := by have := HK.out; omega
      have hkN' : (k : Int) < (c.length : Int) := by omega
      obtain ⟨b1, o1, rfl, _, c1⟩ := (hr.later hb).one hkN
      have hxk := HC.out k hkN
      obtain ⟨y, hy⟩ : ∃ y : Nat, c.getD k 0 = (y : Int) := ⟨(c.getD k 0).toNat, by omega⟩
      have hyN : y < fs.length := by omega
      have hyN' : (y : Int) < (fs.length : Int) := by omega
      obtain ⟨b2, o2, rfl, _, f0, _, _, _⟩ := (hf.later hb).fix hyN
      have hik := HI.out y hyN
      obtain ⟨i, hii⟩ : ∃ i : Nat, (fs.getD y fx0).i = (i : Int) := ⟨((fs.getD y fx0).i).toNat, by omega⟩
      have hi6 : i < 6 := by omega
      have hi6' : (i : Int) < 6 := by omega
      have hit : itemF fs (c.getD k 0) = (i : Int) := by rw [hy]; exact hii
      have HSS := Lib.hid (rowS_set (fs := fs) (c := c) (k := k) i hi6 hit)
      have HNW := Lib.hid (new_seen hit k)
      have HDN := Lib.hid (HD.out k)
      have HFk := Lib.hid (fun h => HF.out k h hkN)
      rw [hy] at c1
      rw [hii] at f0
      have g0 := (hx.cell i).trans (rowS_get fs c k i hi6)
      have g1 := hx.free i
      clear hxk hy hii hik hit
      generalize hz : seenB fs c k i = z at *
      cases z with
      | true =>
        go_wp2_with (fail)
        go_ret
        exact ⟨by rw [HFk.out (by rw [HDN.out, HNW.out]; simp)]; rfl, hb⟩
      | false =>
        go_wp2_with (fail)
        go_roundg gi
        case rel =>
          refine ⟨k + 1, by have := HK.out; show _ = _; omega, by go_num, ?_, ?_, bl_set hb (Nat.le_refl _) _⟩
          · show _ = _; rw [HDN.out, HDk.out, HNW.out]; rfl
          · rw [← HSS.out]; exact hx.set i _
        case measure => omega
end Go.Proofs.Ytgbjglkiaoplmaa
