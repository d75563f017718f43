/- Jumps and sizes of lists of numbers: both ways. -/
import Derived.Test.YtmmjdabioolodaaFld
namespace Go.Proofs.Ytmmjdabioolodaa
open Go.RowKit

/-- Numbers that are no farther than the program's integers go. -/
def Small (a : Int) : Prop := -1000000 ≤ a ∧ a ≤ 1000000
theorem small_get {l : List Int} {n : Nat} {m : Int} (h : OkV l n m) (hm : m ≤ 1000) (k : Nat) : Small (l.getD k 0) := by
  have := h.at_ k
  exact ⟨by omega, by omega⟩
theorem distance_c (a b : Int) (w : World) (ha : Small a) (hb : Small b) : Calls Try.prog 75 #[.int .i64 a, .int .i64 b] w fun e w' => e = .returned (.int .i64 (gap a b)) ∧ w = w' := by
  obtain ⟨a0, a1⟩ := ha
  obtain ⟨b0, b1⟩ := hb
  have hw : wrap64 (max a b - min a b) = max a b - min a b := IntWalk.wrap64_in _ ⟨by omega, by omega⟩
  have hf : gap a b = max a b - min a b := rfl
  generalize gap a b = f at hf
  go_enter Try.func75, Try.ntmps75
  go_wp2
  all_goals
    go_ret
    exact ⟨ret_i (by omega), rfl⟩
set_option maxRecDepth 100000 in
set_option maxHeartbeats 1000000 in
theorem farthest_c (A B : Option Addr) (a b : List Int) (cap cap' : Nat) (w : World) (hl : a.length = b.length) (hn : a.length ≤ 1000) (hs : ∀ k, Small (a.getD k 0) ∧ Small (b.getD k 0)) (hr : Rd w A (ints a)) (hr' : Rd w B (ints b)) :
    Calls Try.prog 74 #[.slice A a.length cap, .slice B b.length cap', .func (.func 75) #[] #[]] w fun e w' => e = .returned (.int .i64 (jumpL a b)) ∧ Below w.heap.size w w' := by
  have HE : Hid (jumpL a b = jumpTo a b a.length) := rfl
  have HL := Lib.hid hl
  have HS : Hid (∀ k, jumpTo a b (k + 1) = max (jumpTo a b k) (gap (a.getD k 0) (b.getD k 0))) := fun k => rfl
  have H0 : Hid (jumpTo a b 0 = 0) := rfl
  have HD := fun k w1 => Lib.hid (distance_c (a.getD k 0) (b.getD k 0) w1 (hs k).1 (hs k).2)
  generalize jumpL a b = res at HE
  clear hl hs
  go_enter Try.func74, Try.ntmps74
  go_wp2_with (fail)
  go_loopg [7, 11] a.length (fun gk fv iv wr => ∃ k : Nat, Hid (k + gk = a.length) ∧ iv = .int .i64 (k : Int) ∧ fv = .int .i64 (jumpTo a b k) ∧ Below w.heap.size w wr)
  case atStart => exact ⟨0, by simp [Hid], rfl, by rw [H0.out], Below.refl _ _⟩
  case round =>
    obtain ⟨k, HK, rfl, rfl, hb⟩ := hrel
    rcases gk with _ | gi
    · obtain rfl : k = a.length := HK.out
      go_wp2_with (fail)
      go_ret
      exact ⟨ret_i (by rw [HE.out]), hb⟩
    · have hlt : k < a.length := by have := HK.out; omega
      have hlt' : (k : Int) < (a.length : Int) := by omega
      have hltb : k < b.length := by rw [← HL.out]; exact hlt
      have hltb' : (k : Int) < (b.length : Int) := by omega
      obtain ⟨b1, o1, rfl, _, HA⟩ := hr.num (by omega)
      obtain ⟨b2, o2, rfl, _, HB⟩ := hr'.num (by omega)
      have F1 : Hid (∀ w1, Below w.heap.size w w1 → w1.cell? ⟨b1, o1 + k, none⟩ = some (.int .i64 (a.getD k 0))) := fun w1 h => HA w1 h k hlt
      have F2 : Hid (∀ w1, Below w.heap.size w w1 → w1.cell? ⟨b2, o2 + k, none⟩ = some (.int .i64 (b.getD k 0))) := fun w1 h => HB w1 h k hltb
      have HDk := HD k
      have HSk := Lib.hid (HS.out k)
      clear HA HB
      generalize hx : jumpTo a b k = x at HSk
      generalize a.getD k 0 = y at *
      generalize b.getD k 0 = z at *
      have hdr : Below w.heap.size w wr.drew := hb.drew
      go_wp2_with (fail)
      refine wp_region_low (hdr) (by kernel_rfl) (by kernel_rfl) ?_
      repeat (first
        | go_big_quiet_skip
        | (go_big_quiet_want
           apply Exists.intro
           refine And.intro (fun W hW => ?_) ?_
           · (have z1 := F1.out W hW; have z2 := F2.out W hW)
             go_simp
             first
               | exact rfl
               | (refine (HDk W).out.mono ?_; rintro e w1 ⟨rfl, rfl⟩; exact ⟨rfl, hW⟩)
           try go_simp
           go_big_quiet_on))
      all_goals
        refine wpQuiet_nil ?_
        intro w9 hb9
        go_wp2_with (fail)
      all_goals
        go_roundg gi
        case rel => exact ⟨k + 1, by have := HK.out; show _ = _; omega, by go_num, by rw [HSk.out]; exact congrArg _ (by omega), hb9⟩
        case measure => omega
set_option maxRecDepth 100000 in
theorem jumpOf_c (A B : Option Addr) (a b : List Int) (cap cap' : Nat) (w : World) (hl : a.length = b.length) (hn : a.length ≤ 1000) (hs : ∀ k, Small (a.getD k 0) ∧ Small (b.getD k 0)) (hr : Rd w A (ints a)) (hr' : Rd w B (ints b)) :
    Calls Try.prog 78 #[.slice A a.length cap, .slice B b.length cap'] w fun e w' => e = .returned (.int .i64 (jumpL a b)) ∧ Below w.heap.size w w' := by
  have H := Lib.hid (farthest_c A B a b cap cap' w hl hn hs hr hr')
  clear hl hs
  generalize jumpL a b = x at H
  go_enter Try.func78, Try.ntmps78
  go_wp2_with (fail)
  refine H.out.mono ?_
  rintro e w1 ⟨rfl, hb1⟩
  go_wp2_with (fail)
  go_ret
  exact ⟨rfl, hb1⟩
set_option maxHeartbeats 1000000 in
theorem size_c (A : Option Addr) (a : List Int) (cap : Nat) (w : World) (hn : a.length ≤ 1000) (hs : ∀ k, Small (a.getD k 0)) (hr : Rd w A (ints a)) :
    Calls Try.prog 72 #[.slice A a.length cap] w fun e w' => e = .returned (.int .i64 (sizeL a)) ∧ Below w.heap.size w w' := by
  obtain ⟨cs, hmk, hcs⟩ := make_ints a.length (by omega) w
  have hb0 : Below w.heap.size w (w.alloc (.cells cs 3)) := bl_alloc (Below.refl _ _) _
  have hR : Row (w.alloc (.cells cs 3)) w.heap.size (List.replicate a.length 0) := by rw [hcs]; exact Bx.new w _ _
  have HJ := jumpOf_c A (some ⟨w.heap.size, 0, none⟩) a (List.replicate a.length 0) cap a.length _ (by simp) hn (fun k => ⟨hs k, by rw [zeros_get]; exact ⟨by omega, by omega⟩⟩) (hr.later hb0) hR.rd
  rw [sizeL_jump, List.length_replicate] at HJ
  replace HJ := Lib.hid HJ
  generalize sizeL a = x at HJ
  clear hcs
  go_enter Try.func72, Try.ntmps72
  go_wp2_with (fail)
  refine HJ.out.mono ?_
  rintro e w1 ⟨rfl, hb1⟩
  go_wp2_with (fail)
  go_ret
  exact ⟨rfl, bl_call hb0 hb1⟩
set_option maxRecDepth 100000 in
set_option maxHeartbeats 2000000 in
theorem rjump_c (A B : Option Addr) (a b : List Int) (cap cap' : Nat) (w : World) (hl : a.length = b.length) (hn : a.length ≤ 1000) (hs : ∀ k, Small (a.getD k 0) ∧ Small (b.getD k 0)) (hr : Rd w A (ints a)) (hr' : Rd w B (ints b)) :
    Calls Try.prog 76 #[.slice A a.length cap, .slice B b.length cap'] w fun e w' => e = .returned (.int .i64 (jumpL a b)) ∧ Below w.heap.size w w' := by
  have HE : Hid (jumpL a b = jumpTo a b a.length) := rfl
  have HL := Lib.hid hl
  have HS : Hid (∀ k, jumpTo a b (k + 1) = max (max (jumpTo a b k) (a.getD k 0 - b.getD k 0)) (b.getD k 0 - a.getD k 0)) := fun k => by rw [jumpTo, gap_max]; omega
  have H0 : Hid (jumpTo a b 0 = 0) := rfl
  generalize jumpL a b = res at HE
  clear hl
  go_enter Try.func76, Try.ntmps76
  go_wp2_with (fail)
  go_loopg [5, 6] a.length (fun gk fv iv wr => ∃ k : Nat, Hid (k + gk = a.length) ∧ iv = .int .i64 (k : Int) ∧ fv = .int .i64 (jumpTo a b k) ∧ Below w.heap.size w wr)
  case atStart => exact ⟨0, by simp [Hid], rfl, by rw [H0.out], Below.refl _ _⟩
  case round =>
    obtain ⟨k, HK, rfl, rfl, hb⟩ := hrel
    rcases gk with _ | gi
    · obtain rfl : k = a.length := HK.out
      go_wp2_with (fail)
      go_ret
      exact ⟨ret_i (by rw [HE.out]), hb⟩
    · have hlt : k < a.length := by have := HK.out; omega
      have hlt' : (k : Int) < (a.length : Int) := by omega
      have hltb : k < b.length := by rw [← HL.out]; exact hlt
      have hltb' : (k : Int) < (b.length : Int) := by omega
      obtain ⟨b1, o1, rfl, _, c1⟩ := (hr.later hb).one hlt
      obtain ⟨b2, o2, rfl, _, c2⟩ := (hr'.later hb).one hltb
      obtain ⟨⟨s1, s2⟩, s3, s4⟩ := hs k
      have HSk := Lib.hid (HS.out k)
      generalize hx : jumpTo a b k = x at HSk
      generalize a.getD k 0 = y at *
      generalize b.getD k 0 = z at *
      have q1 : wrap64 (y - z) = y - z := IntWalk.wrap64_in _ ⟨by omega, by omega⟩
      have q2 : wrap64 (z - y) = z - y := IntWalk.wrap64_in _ ⟨by omega, by omega⟩
      go_wp2_with (fail)
      go_quiet (fail)
      all_goals go_wp2_with (fail)
      all_goals
        go_roundg gi
        case rel => exact ⟨k + 1, by have := HK.out; show _ = _; omega, by go_num, by rw [HSk.out]; exact congrArg _ (by omega), below_drewN hb _⟩
        case measure => omega
set_option maxRecDepth 100000 in
set_option maxHeartbeats 2000000 in
theorem rsize_c (A : Option Addr) (a : List Int) (cap : Nat) (w : World) (hn : a.length ≤ 1000) (hs : ∀ k, Small (a.getD k 0)) (hr : Rd w A (ints a)) :
    Calls Try.prog 73 #[.slice A a.length cap] w fun e w' => e = .returned (.int .i64 (sizeL a)) ∧ Below w.heap.size w w' := by
  have HE : Hid (sizeL a = sizeTo a a.length) := rfl
  have HS : Hid (∀ k, sizeTo a (k + 1) = max (max (sizeTo a k) (a.getD k 0)) (-(a.getD k 0))) := fun k => rfl
  have H0 : Hid (sizeTo a 0 = 0) := rfl
  generalize sizeL a = res at HE
  go_enter Try.func73, Try.ntmps73
  go_wp2_with (fail)
  go_loopg [3, 4] a.length (fun gk fv iv wr => ∃ k : Nat, Hid (k + gk = a.length) ∧ iv = .int .i64 (k : Int) ∧ fv = .int .i64 (sizeTo a k) ∧ Below w.heap.size w wr)
  case atStart => exact ⟨0, by simp [Hid], rfl, by rw [H0.out], Below.refl _ _⟩
  case round =>
    obtain ⟨k, HK, rfl, rfl, hb⟩ := hrel
    rcases gk with _ | gi
    · obtain rfl : k = a.length := HK.out
      go_wp2_with (fail)
      go_ret
      exact ⟨ret_i (by rw [HE.out]), hb⟩
    · have hlt : k < a.length := by have := HK.out; omega
      have hlt' : (k : Int) < (a.length : Int) := by omega
      obtain ⟨b1, o1, rfl, _, c1⟩ := (hr.later hb).one hlt
      obtain ⟨s1, s2⟩ := hs k
      have HSk := Lib.hid (HS.out k)
      generalize hx : sizeTo a k = x at HSk
      generalize a.getD k 0 = y at *
      have q1 : wrap64 (-y) = -y := IntWalk.wrap64_in _ ⟨by omega, by omega⟩
      go_wp2_with (fail)
      go_quiet (fail)
      all_goals go_wp2_with (fail)
      all_goals
        go_roundg gi
        case rel => exact ⟨k + 1, by have := HK.out; show _ = _; omega, by go_num, by rw [HSk.out]; exact congrArg _ (by omega), below_drewN hb _⟩
        case measure => omega
end Go.Proofs.Ytmmjdabioolodaa
