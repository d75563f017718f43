/- The iterator over all stretches. -/
import Derived.Test.YtiffgaelndajpaaDem
import Derived.Test.YtiffgaelndajpaaClkP
import Derived.Sort.LoopGhostIn
namespace Go.Proofs.Ytiffgaelndajpaa
open Go.RowKit Go.Shelf
attribute [local go_sem] Oper.semAt_some

def EncS (s : Int × Int) (vs : Array Value) (_ : World) : Prop := vs = #[.int .i64 s.1, .int .i64 s.2]
set_option maxRecDepth 100000 in
set_option maxHeartbeats 2000000 in
theorem stretches_iter (w : World) (K : Nat → Prop) : Iter Try.prog 67 #[] EncS strL K w := by
  intro n l J Jx W hW hJ hJx hY h0
  refine callsIn_of_wp Try.func67 rfl trivial ?_ rfl
  simp only [Try.ntmps67, List.size_toArray, List.length_cons, List.length_nil, Nat.reduceAdd, Nat.reduceSub, Array.replicate_succ, Array.replicate_zero, List.push_toArray, List.append_toArray, List.nil_append, List.cons_append]
  have HJ0 := h0 W.heap.size W (Below.refl _ _) (Nat.le_refl _) (Nat.le_refl _)
  clear h0
  gi_wp2_with (fail)
  gi_loopg [4] 60 (fun gk av wr => ∃ a : Nat, Hid (a + gk = 60) ∧ av = .int .i64 (a : Int) ∧ J W.heap.size (preS a 0) wr ∧ W.heap.size ≤ wr.heap.size)
  case atStart => exact ⟨0, rfl, rfl, HJ0, Nat.le_refl _⟩
  case round =>
    obtain ⟨a, HA, rfl, hj, hsz⟩ := hrel
    clear HJ0
    rcases gk with _ | gi
    · obtain rfl : a = 60 := HA.out
      gi_wp2_with (fail)
      first | go_end0 | refine bodyPost_ret (results_none rfl _ _ _) rfl ?_
      exact ⟨⟨_, rfl⟩, W.heap.size, hsz, .inl (by rw [← preS_end]; exact hj)⟩
    · have ha : a < 60 := by have := HA.out; omega
      have ha' : (a : Int) < 60 := by omega
      gi_wp2_with (fail)
      gi_loopg [3] (60 - a) (fun gk bv wq => ∃ m : Nat, Hid (m + gk = 60 - a) ∧ bv = .int .i64 ((a : Int) + 1 + m) ∧ J W.heap.size (preS a m) wq ∧ W.heap.size ≤ wq.heap.size)
      case atStart => exact ⟨0, by simp [Hid], by simp, hj, hsz⟩
      case round =>
        clear hj hsz
        obtain ⟨m, HM, rfl, hj, hsz⟩ := hrel
        rcases gk with _ | gj
        · have hm : m = 60 - a := HM.out
          have hb : ¬ (a : Int) + 1 + m ≤ 60 := by omega
          rw [hm, preS_next] at hj
          clear hm
          gi_wp2_with (fail)
          gi_roundg gi
          case measure => omega
          case rel => exact ⟨a + 1, by have := HA.out; show _ = _; omega, by go_num, hj, hsz⟩
        · have hm : m < 60 - a := by have := HM.out; omega
          have hb : (a : Int) + 1 + m ≤ 60 := by omega
          have hbw : (a : Int) + 1 + m + 1 ≤ 61 := by omega
          have hm0 : (0 : Int) ≤ m := by omega
          have ha0 : (0 : Int) ≤ a := by omega
          obtain ⟨fn, tmps, assign, body, hy, hR⟩ := hY _ (preS a m) ((a : Int), (a : Int) + 1 + m) #[.int .i64 (a : Int), .int .i64 ((a : Int) + 1 + m)] wr hj hsz (preS_pre a m ha hm) rfl
          rw [← preS_succ] at hR
          gi_wp2_with (fail)
          refine ⟨wide_n _, ?_⟩
          refine hR.mono ?_
          rintro en W3 ⟨hm3, ⟨rfl, hJ3⟩ | ⟨rfl, hJx3⟩⟩
          case inr =>
            gi_wp2_with (fail)
            first | go_end0 | refine bodyPost_ret (results_none rfl _ _ _) rfl ?_
            exact ⟨⟨_, rfl⟩, W.heap.size, Nat.le_trans hsz hm3.size, .inr ⟨_, preS_of a (m + 1) ha (by omega), hJx3⟩⟩
          clear hy hR
          gi_wp2_with (fail)
          gi_roundg gj
          case measure => omega
          case rel => exact ⟨m + 1, by have := HM.out; show _ = _; omega, by go_num, hJ3, Nat.le_trans hsz hm3.size⟩
end Go.Proofs.Ytiffgaelndajpaa
