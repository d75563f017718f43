/- The specification's near zones. -/
import Derived.Test.YtjgpfnnokdcgoaaRlink
namespace Go.Proofs.Ytjgpfnnokdcgoaa
open Go.RowKit Go.Maps

theorem ints_snoc (l : List Int) (x : Int) : ints (l ++ [x]) = ints l ++ [.int .i64 x] := by simp [ints]
theorem own_base {w : World} {base base' e size n : Nat} {v : Value} {xs : List Value} (h : w.ownsRow base e size v n xs) (hb : base' ≤ base) : w.ownsRow base' e size v n xs := by
  refine ⟨h.1, ?_⟩
  rcases h.2 with h' | ⟨g, cap, cur, hv, h1, h2⟩
  · exact .inl h'
  · exact .inr ⟨g, cap, cur, hv, by omega, h2⟩
/-- The numbers below k that f is true of. -/
def upTo (f : Int → Bool) : Nat → List Int
  | 0 => []
  | k + 1 => if f k then upTo f k ++ [(k : Int)] else upTo f k
theorem upTo_len (f : Int → Bool) : ∀ k, (upTo f k).length ≤ k
  | 0 => Nat.le_refl _
  | k + 1 => by
    have := upTo_len f k
    rw [upTo]; split
    · rw [List.length_append]; simp; omega
    · omega
theorem upTo_mem (f : Int → Bool) : ∀ (k : Nat) (x : Int), x ∈ upTo f k ↔ 0 ≤ x ∧ x < k ∧ f x = true
  | 0, x => by simp [upTo]; omega
  | k + 1, x => by
    rw [upTo]
    have ih := upTo_mem f k x
    split
    · rename_i h
      rw [List.mem_append, List.mem_singleton, ih]
      constructor
      · rintro (⟨h1, h2, h3⟩ | rfl)
        · exact ⟨h1, by omega, h3⟩
        · exact ⟨by omega, by omega, h⟩
      · rintro ⟨h1, h2, h3⟩
        by_cases he : x = k
        · exact .inr he
        · exact .inl ⟨h1, by omega, h3⟩
    · rename_i h
      rw [ih]
      constructor
      · rintro ⟨h1, h2, h3⟩; exact ⟨h1, by omega, h3⟩
      · rintro ⟨h1, h2, h3⟩
        refine ⟨h1, ?_, h3⟩
        rcases Int.lt_or_eq_of_le (show x ≤ (k : Int) by omega) with h' | h'
        · exact h'
        · rw [h'] at h3; exact absurd h3 h
theorem upTo_sorted (f : Int → Bool) : ∀ k, (upTo f k).Pairwise (· < ·)
  | 0 => List.Pairwise.nil
  | k + 1 => by
    rw [upTo]; split
    · rw [List.pairwise_append]
      exact ⟨upTo_sorted f k, by simp, fun a ha b hb => by
        rw [List.mem_singleton] at hb
        have := (upTo_mem f k a).1 ha
        omega⟩
    · exact upTo_sorted f k
/-- The zones near a zone. -/
def nearL (l : List (Int × Int)) (z : Int) (n : Nat) : List Int := upTo (linkB l z) n

set_option maxRecDepth 100000 in
set_option maxHeartbeats 2000000 in
theorem rnear_c (Z : Nat) (A : Option Addr) (l : List (Int × Int)) (c : Nat) (z : Int) (w : World) (hlen : l.length ≤ 1000) (hZ : Z ≤ 1000) (hr : Rd w A (cellsP l)) :
    Calls Try.prog 62 #[trapV Z A l.length c, .int .i64 z] w fun e w' => ∃ A' c', e = .returned (.slice A' (nearL l z Z).length c') ∧ w'.ownsRow w.heap.size 3 1 (.slice A' (nearL l z Z).length c') (nearL l z Z).length (ints (nearL l z Z)) ∧ Below w.heap.size w w' := by
  obtain ⟨i0, hi, hz0, hz1, hz2⟩ := info_parts int_info
  have x0 := Bx.new w 24 #[.int .i64 Z, .slice A l.length c]
  have hb0 := bl_alloc (Below.refl w.heap.size w) (.cells #[.int .i64 Z, .slice A l.length c] 24)
  generalize hw0 : w.alloc (.cells #[.int .i64 Z, .slice A l.length c] 24) = w0 at *
  have HLk := fun (b : Int) (w1 : World) (h : Rd w1 A (cellsP l)) => Lib.hid (rlinked_c Z A l c z b w1 hlen h)
  have HF := upTo_len (linkB l z)
  unfold nearL
  go_enter Try.func62, Try.ntmps62
  obtain ⟨c0, c1, _⟩ := x0.two
  go_wp2_with (fail)
  clear c0 c1
  go_loopg [5, 6] Z (fun gk v iv wr => ∃ k : Nat, Hid (k + gk = Z) ∧ iv = .int .i64 (k : Int) ∧ wr.ownsRow w0.heap.size 3 1 v (upTo (linkB l z) k).length (ints (upTo (linkB l z) k)) ∧ Below w0.heap.size w0 wr)
  case atStart => exact ⟨0, by simp [Hid], rfl, World.ownsRow_nil _ _ _ _, Below.refl _ _⟩
  case round =>
    obtain ⟨k, HK, rfl, hown, hb⟩ := hrel
    have xr := x0.call hb
    obtain ⟨c0, c1, _⟩ := xr.two
    rcases gk with _ | gi
    · obtain rfl : k = Z := HK.out
      obtain ⟨A', c', rfl⟩ := own_form hown
      go_wp2_with (fail)
      go_ret
      exact ⟨A', c', rfl, own_base hown hb0.size, bl_call hb0 hb⟩
    · have hkl' : (k : Int) < (Z : Int) := by have h := HK.out; omega
      have HX : Hid (upTo (linkB l z) (k + 1) = if linkB l z k then upTo (linkB l z) k ++ [(k : Int)] else upTo (linkB l z) k) := rfl
      have hfl := HF k
      have hkZ : k < Z := by omega
      have HC := HLk k wr ((hr.later hb0).later hb)
      generalize upTo (linkB l z) k = L at hown HX hfl
      cases hq : linkB l z k with
      | true =>
        have HX' : Hid (upTo (linkB l z) (k + 1) = L ++ [(k : Int)]) := by show _ = _; rw [HX.out, if_pos hq]
        rw [hq] at HC
        clear HX hq HLk HF
        obtain ⟨B, d, rfl⟩ := own_form hown
        go_wp2_with (fail)
        refine HC.out.mono ?_
        rintro e w1 ⟨rfl, hb1⟩
        have hown1 := own_call hown hb1
        have hb01 := bl_call hb hb1
        go_wp2_with (at_builtin; refine wpList_append_own _ rfl _ _ 25 rfl w0.heap.size 3 i0 _ 1 8 Try.underlying25 hi hz0 hz1 hz2 rfl (by decide) _ _ _ rfl (hown1.alloc _) ⟨w1.heap.size, 0, none⟩ 1 1 [.int .i64 k] rfl rfl (cell_one_new _ _ _) (ints_oneCell .i64 [_]) ?c3 ?c4 ?c5 ?_)
        case c3 => unfold maxLen; omega
        case c4 => omega
        case c5 => have := hb01.size; simp; omega
        intro v2 w4 hown4 hg4 _
        have hb4 : Below w0.heap.size w0 w4 := (bl_alloc hb01 _).trans (grown_below (hown1.alloc _) hg4 (by have := hb01.size; simp; omega))
        have HO : Hid (w4.ownsRow w0.heap.size 3 1 v2 (upTo (linkB l z) (k + 1)).length (ints (upTo (linkB l z) (k + 1)))) := by
          show World.ownsRow _ _ _ _ _ _ _
          rw [HX'.out, ints_snoc, List.length_append]; exact hown4
        clear hown4 hg4 hown
        go_wp2_with (fail)
        go_roundg gi
        case rel => exact ⟨k + 1, by have h := HK.out; show _ = _; omega, by go_num, HO.out, hb4⟩
        case measure => omega
      | false =>
        have HX' : Hid (upTo (linkB l z) (k + 1) = L) := by show _ = _; rw [HX.out, hq]; rfl
        rw [hq] at HC
        clear HX hq HLk HF
        go_wp2_with (fail)
        refine HC.out.mono ?_
        rintro e w1 ⟨rfl, hb1⟩
        have hown1 := own_call hown hb1
        go_wp2_with (fail)
        go_roundg gi
        case rel => exact ⟨k + 1, by have h := HK.out; show _ = _; omega, by go_num, by rw [HX'.out]; exact hown1, bl_call hb hb1⟩
        case measure => omega
end Go.Proofs.Ytjgpfnnokdcgoaa
