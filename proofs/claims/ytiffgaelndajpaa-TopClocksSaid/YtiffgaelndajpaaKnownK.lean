/- Equal lists of numbers; the chapter's examples: 'known' answers true. -/
import Derived.Test.YtiffgaelndajpaaEnds
import Derived.Test.YtiffgaelndajpaaSpd
namespace Go.Proofs.Ytiffgaelndajpaa
open Go.RowKit

theorem take_same {p q : List Int} {k : Nat} (hp : k < p.length) (hq : k < q.length) (h : p.take k = q.take k) (he : p.getD k 0 = q.getD k 0) : p.take (k + 1) = q.take (k + 1) := by
  rw [List.take_succ_eq_append_getElem hp, List.take_succ_eq_append_getElem hq, h]
  simp [hp, hq] at he
  rw [he]
theorem not_same {p q : List Int} {k : Nat} (he : p.getD k 0 ≠ q.getD k 0) : decide (p = q) = false := by
  simp only [decide_eq_false_iff_not]
  rintro rfl
  exact he rfl

set_option maxHeartbeats 1000000 in
theorem sameInts_c (A B : Option Addr) (p q : List Int) (cap cap' : Nat) (w : World) (hlen : p.length ≤ 9223372036854775806) (hr : Rd w A (ints p)) (hq : Rd w B (ints q)) :
    Calls Try.prog 29 #[.slice A p.length cap, .slice B q.length cap'] w fun e w' => e = .returned (.bool (decide (p = q))) ∧ Below w.heap.size w w' := by
  by_cases hl : p.length = q.length
  · have hne : ((p.length : Int) != (q.length : Int)) = false := by simp [hl]
    have HL := Lib.hid hl
    clear hl
    go_enter Try.func29, Try.ntmps29
    go_wp2
    go_loopw [5] (fun i wr => ∃ k : Nat, k ≤ p.length ∧ i = .int .i64 k ∧ Hid (p.take k = q.take k) ∧ Below w.heap.size w wr) (fun i _ => p.length - (intOf i).toNat)
    case atStart => exact ⟨0, Nat.zero_le _, rfl, by simp [Hid], Below.refl _ _⟩
    case round =>
      obtain ⟨k, hk, rfl, ht, hb⟩ := hrel
      by_cases hlt : k < p.length
      · have hlt' : k < q.length := by have := HL.out; omega
        obtain ⟨b, o, rfl, _, hc⟩ := (hr.later hb).at_ (k := k) (by simpa using hlt)
        obtain ⟨b', o', rfl, _, hc'⟩ := (hq.later hb).at_ (k := k) (by simpa using hlt')
        have hck := hc k _ (ints_get hlt)
        have hck' := hc' k _ (ints_get hlt')
        clear hc hc'
        have H1 := Lib.hid (take_same hlt hlt' ht.out)
        have H2 := Lib.hid (@not_same p q k)
        generalize p.getD k 0 = f at hck H1 H2
        generalize q.getD k 0 = g at hck' H1 H2
        by_cases hfg : (f != g) = true
        · go_wp2
          go_quiet (fail)
          go_wp2
          go_ret
          exact ⟨ret_b (H2.out (by simpa using hfg)), below_drewN hb _⟩
        · have hfg' : (f != g) = false := by simpa using hfg
          clear hfg
          go_wp2
          go_quiet (fail)
          go_wp2
          go_roundw
          case rel => exact ⟨k + 1, by omega, by go_num, H1.out (by simpa using hfg'), below_drewN hb _⟩
          case measure => simp [intOf]; omega
      · obtain rfl : k = p.length := by omega
        go_wp2
        go_ret
        exact ⟨ret_b (by have h := ht.out; rw [List.take_length, HL.out, List.take_length] at h; simp [h]), hb⟩
  · have hne : ((p.length : Int) != (q.length : Int)) = true := by simp; omega
    have hd : decide (p = q) = false := by simp only [decide_eq_false_iff_not]; rintro rfl; exact hl rfl
    go_enter Try.func29, Try.ntmps29
    go_wp2
    go_ret
    exact ⟨ret_b hd, Below.refl _ _⟩

theorem long_c (A : Option Addr) (m c : Nat) (w : World) : Calls Try.prog 16 #[.slice A m c] w fun e w' => e = .returned (.bool (decide (40 < m))) ∧ w = w' := by
  by_cases h : 40 < m
  · have h' : (40 : Int) < (m : Int) := by omega
    go_enter Try.func16, Try.ntmps16
    go_wp2_with (fail)
    go_ret
    exact ⟨ret_b (by simp [h]), rfl⟩
  · have h' : ¬ (40 : Int) < (m : Int) := by omega
    go_enter Try.func16, Try.ntmps16
    go_wp2_with (fail)
    go_ret
    exact ⟨ret_b (by simp <;> omega), rfl⟩
def ex1 : List T3 := [(0, 2, 1), (0, 3, 2)]
def ex2 : List T3 := [(0, 2, 1), (0, 3, 2), (1, 2, 1)]
theorem ex1_urg : urgL ex1 = [0, 1, 1] ∧ validE ex1 = 0 := by decide +kernel
theorem ex1_slack : slackL ex1 = 0 := by decide +kernel
theorem ex2_late : lateL ex2 = 1 ∧ validE ex2 = 0 := by decide +kernel
theorem ex2_all : (strL.all fun s => decide (dem ex2 s.1 s.2 * 3 ≤ 4 * (s.2 - s.1))) = true := by decide +kernel
theorem ex2_speed : speedL ex2 = (4, 3) := by
  refine (speedL_is (validE_ok.1 ex2_late.2)).uniq ⟨by decide, by decide, by decide, by decide, by decide, fun s hs => ?_, .inr ⟨(0, 3), mem_strL.2 (by decide), by decide⟩⟩
  exact of_decide_eq_true (List.all_eq_true.1 ex2_all s hs)
theorem own_new {w : World} {base g n : Nat} {l : List T3} (hb : base ≤ g) (hn : l.length = n) (hm : n ≤ 1000) (h : Bx w g 40 (cellsT l).toArray) : w.ownsRow base 40 3 (.slice (some ⟨g, 0, none⟩) n n) n (cellsT l) :=
  ⟨by simp [hn], .inr ⟨g, n, (cellsT l).toArray, rfl, hb, h, Nat.le_refl _, by unfold maxLen; omega, by simp [hn], by simp [← hn]; rw [← cellsT_length, List.take_length]⟩⟩
set_option maxRecDepth 100000 in
set_option maxHeartbeats 2000000 in
theorem known_c (w : World) : Calls Try.prog 17 #[] w fun e w' => e = .returned (.bool true) ∧ Below w.heap.size w w' := by
  have HU : Hid (∀ (B : Option Addr) (w : World), Rd w B (cellsT ex1) → Calls Try.prog 25 #[.slice B 2 2] w (OutRk [0, 1, 1] 0 w)) := fun B w h => by
    have := Urgent_k B ex1 2 w (by decide) h
    rw [urgG, if_pos ex1_urg.2, ex1_urg.1, ex1_urg.2] at this
    exact this
  have HS : Hid (∀ (B : Option Addr) (w : World), Rd w B (cellsT ex1) → Calls Try.prog 38 #[.slice B 2 2] w fun e w' => e = .returned (.tuple #[.int .i64 0, .bool true, .int .i64 0]) ∧ Below w.heap.size w w') := fun B w h => by
    have := Slack_c B ex1 2 w (by decide) h
    rw [slackG, someG, if_pos ex1_urg.2, if_pos ex1_urg.2, ex1_slack, ex1_urg.2] at this
    exact this
  have HP : Hid (∀ (B : Option Addr) (c : Nat) (w : World), Rd w B (cellsT ex2) → Calls Try.prog 40 #[.slice B 3 c] w fun e w' => e = .returned (.tuple #[.agg #[.int .i64 4, .int .i64 3], .int .i64 0]) ∧ Below w.heap.size w w') := fun B c w h => by
    have := Speed_c B ex2 c w (by decide) h
    rw [speedG, if_pos ex2_late.2, ex2_speed, ex2_late.2] at this
    exact this
  have HL : Hid (∀ (B : Option Addr) (c : Nat) (w : World), Rd w B (cellsT ex2) → Calls Try.prog 30 #[.slice B 3 c] w fun e w' => e = .returned (.tuple #[.int .i64 1, .int .i64 0]) ∧ Below w.heap.size w w') := fun B c w h => by
    have := Late_c B ex2 c w (by decide) h
    rw [lateG, if_pos ex2_late.2, ex2_late.1, ex2_late.2] at this
    exact this
  have hr0 := rd_newT w 40 ex1
  have hx0 : Bx (w.alloc (.cells (cellsT ex1).toArray 40)) w.heap.size 40 (cellsT ex1).toArray := Bx.new _ _ _
  have hb0 : Below w.heap.size w (w.alloc (.cells (cellsT ex1).toArray 40)) := bl_alloc (Below.refl _ _) _
  go_enter Try.func17, Try.ntmps17
  go_wp2_with (fail)
  refine (HU.out _ _ hr0).mono ?_
  rintro e w1 ⟨A1, c1, rfl, hra, hA1, hb1⟩
  go_wp2_with (fail)
  refine (HS.out _ _ (hr0.later hb1)).mono ?_
  rintro e w2 ⟨rfl, hb2⟩
  have hb12 := bl_call hb1 hb2
  have hx2 := hx0.call hb12
  have hb02 := bl_call hb0 hb12
  have hra2 := hra.later hb2
  obtain ⟨i0, hi, hz0, hz1, hz2⟩ := info_parts job_info
  have hown := (own_new (l := ex1) (base := w.heap.size) (Nat.le_refl _) rfl (by decide) hx2).alloc (.cells #[.int .i64 1, .int .i64 2, .int .i64 1] 40)
  have hs2 : w.heap.size ≤ (w2.alloc (.cells #[.int .i64 1, .int .i64 2, .int .i64 1] 40)).heap.size := by have := hb02.size; rw [World.size_alloc]; omega
  obtain ⟨A3, c3, w3, E3, ho3, hg3⟩ := run_append_rows (P := Try.prog) _ w.heap.size 22 40 i0 _ 3 24 Try.underlying22 hi hz0 hz1 hz2 rfl (by decide) _ 2 (cellsT ex1) hown (some ⟨w2.heap.size, 0, none⟩) 1 1 (cellsT [(1, 2, 1)]) rfl (cellsT_one _) (rd_newT w2 40 [(1, 2, 1)]) (by unfold maxLen; omega) (by omega) hs2
  have hb03 : Below w.heap.size w w3 := (bl_alloc hb02 _).trans (grown_below hown hg3 hs2)
  have hra3 : Rd w3 A1 (ints [0, 1, 1]) := by
    refine (hra2.later (bl_alloc (Below.refl _ _) _)).mod ((Mod.refl (fun k => k = w.heap.size) _).grown hg3 (fun k hk => .inr (by injection hk with hk; exact hk.symm))) (fun a h1 _ _ h2 => ?_)
    have := hA1 a h1
    rw [World.size_alloc] at this
    have h2' : a.block = w.heap.size := h2
    omega
  have hre : Rd w3 A3 (cellsT ex2) := (own_rd ho3).1
  have F3 := Lib.hid E3
  clear E3 hown hg3 ho3 hra2 hx2 hx0
  go_wp2_with (at_builtin; refine wpList_append_eq rfl _ _ 22 rfl _ _ _ w3 rfl rfl F3.out ?_)
  refine (HP.out _ _ _ hre).mono ?_
  rintro e w4 ⟨rfl, hb4⟩
  have hb04 := bl_call hb03 hb4
  have hx4 : Bx (w4.alloc (.cells #[.int .i64 4, .int .i64 3] 51)) w4.heap.size 51 #[.int .i64 4, .int .i64 3] := Bx.new _ _ _
  have hbl4 := bl_alloc (Below.refl w4.heap.size w4) (.cells #[.int .i64 4, .int .i64 3] 51)
  go_wp2_with (fail)
  refine (HL.out _ _ _ ((hre.later hb4).later hbl4)).mono ?_
  rintro e w5 ⟨rfl, hb5⟩
  have hb45 := bl_call hbl4 hb5
  have hb05 := hb04.trans (hb45.mono hb04.size)
  have hra5 := (hra3.later hb4).later hb45
  have hx5 := hx4.call hb5
  have hxa := hx5.alloc (.cells #[.int .i64 0, .int .i64 1, .int .i64 1] 3)
  have hr6 := hra5.later (bl_alloc (Below.refl w5.heap.size w5) (.cells #[.int .i64 0, .int .i64 1, .int .i64 1] 3))
  have hs6 := rd_newI w5 3 [0, 1, 1]
  have HSI : Hid (Calls Try.prog 29 #[.slice A1 3 c1, .slice (some ⟨w5.heap.size, 0, none⟩) 3 3] (w5.alloc (.cells #[.int .i64 0, .int .i64 1, .int .i64 1] 3)) fun e w' => e = .returned (.bool true) ∧ Below (w5.alloc (.cells #[.int .i64 0, .int .i64 1, .int .i64 1] 3)).heap.size (w5.alloc (.cells #[.int .i64 0, .int .i64 1, .int .i64 1] 3)) w') := by
    have := sameInts_c A1 (some ⟨w5.heap.size, 0, none⟩) [0, 1, 1] [0, 1, 1] c1 3 _ (by decide) hr6 hs6
    rw [decide_eq_true rfl] at this
    exact this
  go_wp2_with (fail)
  refine HSI.out.mono ?_
  rintro e w6 ⟨rfl, hb6⟩
  obtain ⟨z1, z2, z3, z4⟩ := (hxa.call hb6).two
  go_wp2_with (fail)
  go_ret
  exact ⟨rfl, bl_call (bl_alloc hb05 _) hb6⟩
end Go.Proofs.Ytiffgaelndajpaa
