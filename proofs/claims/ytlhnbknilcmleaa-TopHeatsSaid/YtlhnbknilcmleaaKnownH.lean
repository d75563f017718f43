/- Equal lists of numbers; the chapter's examples: 'known' answers true. -/
import Derived.Test.YtlhnbknilcmleaaChw
import Derived.Test.YtlhnbknilcmleaaCur
namespace Go.Proofs.Ytlhnbknilcmleaa
open Go.RowKit

theorem take_same {p q : List Int} {k : Nat} (hp : k < p.length) (hq : k < q.length) (h : p.take k = q.take k) (he : p.getD k 0 = q.getD k 0) : p.take (k + 1) = q.take (k + 1) := by
  rw [List.take_succ_eq_append_getElem hp, List.take_succ_eq_append_getElem hq, h]
  simp [hp, hq] at he
  rw [he]
theorem not_same {p q : List Int} {k : Nat} (he : p.getD k 0 ≠ q.getD k 0) : decide (p = q) = false := by
  simp only [decide_eq_false_iff_not]
  rintro rfl
  exact he rfl

set_option maxHeartbeats 1000000 in
theorem sameInts_c (A B : Option Addr) (p q : List Int) (cap cap' : Nat) (w : World) (hlen : p.length ≤ 9223372036854775806) (hr : Rd w A (ints p)) (hq : Rd w B (ints q)) :
    Calls Try.prog 31 #[.slice A p.length cap, .slice B q.length cap'] w fun e w' => e = .returned (.bool (decide (p = q))) ∧ Below w.heap.size w w' := by
  by_cases hl : p.length = q.length
  · have hne : ((p.length : Int) != (q.length : Int)) = false := by simp [hl]
    have HL := Lib.hid hl
    clear hl
    go_enter Try.func31, Try.ntmps31
    go_wp2
    go_loopw [5] (fun i wr => ∃ k : Nat, k ≤ p.length ∧ i = .int .i64 k ∧ Hid (p.take k = q.take k) ∧ Below w.heap.size w wr) (fun i _ => p.length - (intOf i).toNat)
    case atStart => exact ⟨0, Nat.zero_le _, rfl, by simp [Hid], Below.refl _ _⟩
    case round =>
      obtain ⟨k, hk, rfl, ht, hb⟩ := hrel
      by_cases hlt : k < p.length
      · have hlt' : k < q.length := by have := HL.out; omega
        obtain ⟨b, o, rfl, _, hc⟩ := (hr.later hb).at_ (k := k) (by simpa using hlt)
        obtain ⟨b', o', rfl, _, hc'⟩ := (hq.later hb).at_ (k := k) (by simpa using hlt')
        have hck := hc k _ (ints_get hlt)
        have hck' := hc' k _ (ints_get hlt')
        clear hc hc'
        have H1 := Lib.hid (take_same hlt hlt' ht.out)
        have H2 := Lib.hid (@not_same p q k)
        generalize p.getD k 0 = f at hck H1 H2
        generalize q.getD k 0 = g at hck' H1 H2
        by_cases hfg : (f != g) = true
        · go_wp2
          go_quiet (fail)
          go_wp2
          go_ret
          exact ⟨ret_b (H2.out (by simpa using hfg)), below_drewN hb _⟩
        · have hfg' : (f != g) = false := by simpa using hfg
          clear hfg
          go_wp2
          go_quiet (fail)
          go_wp2
          go_roundw
          case rel => exact ⟨k + 1, by omega, by go_num, H1.out (by simpa using hfg'), below_drewN hb _⟩
          case measure => simp [intOf]; omega
      · obtain rfl : k = p.length := by omega
        go_wp2
        go_ret
        exact ⟨ret_b (by have h := ht.out; rw [List.take_length, HL.out, List.take_length] at h; simp [h]), hb⟩
  · have hne : ((p.length : Int) != (q.length : Int)) = true := by simp; omega
    have hd : decide (p = q) = false := by simp only [decide_eq_false_iff_not]; rintro rfl; exact hl rfl
    go_enter Try.func31, Try.ntmps31
    go_wp2
    go_ret
    exact ⟨ret_b hd, Below.refl _ _⟩

theorem long_c (A : Option Addr) (m c : Nat) (w : World) : Calls Try.prog 18 #[.slice A m c] w fun e w' => e = .returned (.bool (decide (100 < m))) ∧ w = w' := by
  by_cases h : 100 < m
  · have h' : (100 : Int) < (m : Int) := by omega
    go_enter Try.func18, Try.ntmps18
    go_wp2_with (fail)
    go_ret
    exact ⟨ret_b (by simp [h]), rfl⟩
  · have h' : ¬ (100 : Int) < (m : Int) := by omega
    go_enter Try.func18, Try.ntmps18
    go_wp2_with (fail)
    go_ret
    exact ⟨ret_b (by simp), rfl⟩
def ex1 : List T3 := [(0, 0, 3), (1, 0, 2), (1, 0, 2)]
def ex2 : List T3 := [(0, 0, 5), (1, 0, 2)]
theorem ex1_few : fewG 1 ex1 4 = 1 ∧ limE 1 ex1 4 = 0 := by decide +kernel
theorem ex1_win : winV 1 ex1 4 [(0, 0, 2)] = 1 ∧ winE 1 ex1 4 [(0, 0, 2)] = 0 := by decide +kernel
theorem ex2_cur : curveG 1 ex2 = [1, 1, 1, 1, 1, 0] ∧ validE 1 ex2 = 0 := by decide +kernel
theorem example_c (w : World) : Calls Try.prog 53 #[] w fun e w' => e = .returned (.slice (some ⟨w.heap.size, 0, none⟩) 3 3) ∧ Rd w' (some ⟨w.heap.size, 0, none⟩) (cellsT ex1) ∧ Below w.heap.size w w' := by
  have hr := rd_newT w 61 ex1
  go_enter Try.func53, Try.ntmps53
  go_wp2_with (fail)
  go_ret
  exact ⟨rfl, hr, bl_alloc (Below.refl _ _) _⟩
set_option maxRecDepth 100000 in
set_option maxHeartbeats 2000000 in
theorem known_c (w : World) : Calls Try.prog 19 #[] w fun e w' => e = .returned (.bool true) ∧ Below w.heap.size w w' := by
  have HE := fun w => Lib.hid (example_c w)
  have HF : Hid (∀ (B : Option Addr) (w : World), Rd w B (cellsT ex1) → Calls Try.prog 34 #[.int .i64 1, .slice B 3 3, .int .i64 4] w fun e w' => e = .returned (.tuple #[.int .i64 1, .int .i64 0]) ∧ Below w.heap.size w w') := fun B w h => by
    have := Fewest_c 1 B ex1 3 4 w (by decide) h
    rw [ex1_few.1, ex1_few.2] at this
    exact this
  have HW : Hid (∀ (B C : Option Addr) (w : World), Rd w B (cellsT ex1) → Rd w C (cellsT [((0 : Int), (0 : Int), (2 : Int))]) → Calls Try.prog 39 #[.int .i64 1, .slice B 3 3, .int .i64 4, .slice C 1 1] w fun e w' => e = .returned (.tuple #[.int .i64 1, .int .i64 0]) ∧ Below w.heap.size w w') := fun B C w h h2 => by
    have := CheckWindows_c 1 B ex1 3 4 C [((0 : Int), (0 : Int), (2 : Int))] 1 w (by decide) (by decide) (by decide) (by decide) h h2
    rw [ex1_win.1, ex1_win.2] at this
    exact this
  have HC : Hid (∀ (B : Option Addr) (w : World), Rd w B (cellsT ex2) → Calls Try.prog 42 #[.int .i64 1, .slice B 2 2] w (OutI [1, 1, 1, 1, 1, 0] 0 w)) := fun B w h => by
    have := Curve_c 1 B ex2 2 w (by decide) h
    rw [ex2_cur.1, ex2_cur.2] at this
    exact this
  go_enter Try.func19, Try.ntmps19
  go_wp2_with (fail)
  refine (HE _).out.mono ?_
  rintro e w1 ⟨rfl, hr1, hb1⟩
  go_wp2_with (fail)
  refine (HF.out _ _ hr1).mono ?_
  rintro e w2 ⟨rfl, hb2⟩
  go_wp2_with (fail)
  refine (HE _).out.mono ?_
  rintro e w3 ⟨rfl, hr3, hb3⟩
  have hr4 := hr3.later (bl_alloc (Below.refl w3.heap.size w3) (.cells #[.int .i64 0, .int .i64 0, .int .i64 2] 67))
  have hs4 := rd_newT w3 67 [((0 : Int), (0 : Int), (2 : Int))]
  go_wp2_with (fail)
  refine (HW.out _ _ _ hr4 hs4).mono ?_
  rintro e w4 ⟨rfl, hb4⟩
  have hr5 := rd_newT w4 61 ex2
  go_wp2_with (fail)
  refine (HC.out _ _ hr5).mono ?_
  rintro e w5 ⟨A5, c5, rfl, ho5, hb5⟩
  have hr6 := (own_rd ho5).1.later (bl_alloc (Below.refl w5.heap.size w5) (.cells #[.int .i64 1, .int .i64 1, .int .i64 1, .int .i64 1, .int .i64 1, .int .i64 0] 3))
  have hs6 := rd_newI w5 3 [1, 1, 1, 1, 1, 0]
  have HS : Hid (Calls Try.prog 31 #[.slice A5 6 c5, .slice (some ⟨w5.heap.size, 0, none⟩) 6 6] (w5.alloc (.cells #[.int .i64 1, .int .i64 1, .int .i64 1, .int .i64 1, .int .i64 1, .int .i64 0] 3)) fun e w' => e = .returned (.bool true) ∧ Below (w5.alloc (.cells #[.int .i64 1, .int .i64 1, .int .i64 1, .int .i64 1, .int .i64 1, .int .i64 0] 3)).heap.size (w5.alloc (.cells #[.int .i64 1, .int .i64 1, .int .i64 1, .int .i64 1, .int .i64 1, .int .i64 0] 3)) w') := by
    have := sameInts_c A5 (some ⟨w5.heap.size, 0, none⟩) [1, 1, 1, 1, 1, 0] [1, 1, 1, 1, 1, 0] c5 6 _ (by decide) hr6 hs6
    rw [decide_eq_true rfl] at this
    exact this
  go_wp2_with (fail)
  refine HS.out.mono ?_
  rintro e w6 ⟨rfl, hb6⟩
  go_wp2_with (fail)
  go_ret
  refine ⟨rfl, ?_⟩
  have h12 := bl_call hb1 hb2
  have h13 := bl_call h12 hb3
  have h14 := bl_call (h13.alloc h13.size _) hb4
  have h15 := bl_call (h14.alloc h14.size _) hb5
  exact bl_call (h15.alloc h15.size _) hb6
end Go.Proofs.Ytlhnbknilcmleaa
