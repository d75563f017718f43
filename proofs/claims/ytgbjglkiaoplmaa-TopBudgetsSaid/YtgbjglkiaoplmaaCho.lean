/- Choices out of bits: package budget's. -/
import Derived.Test.YtgbjglkiaoplmaaVfx
import Derived.Test.YtgbjglkiaoplmaaBudO
namespace Go.Proofs.Ytgbjglkiaoplmaa
open Go.RowKit

theorem bits_all : ∀ (m : Fin 256) (k : Fin 8), (bits BinOp.and IntKind.i64 ((m.val : Int) / 2 ^ k.val) 1 == 1) = bitB m.val k.val := by decide +kernel
theorem bits_one {m k : Nat} (hm : m < 256) (hk : k < 8) : (bits BinOp.and IntKind.i64 ((m : Int) / 2 ^ k) 1 == 1) = bitB m k := bits_all ⟨m, hm⟩ ⟨k, hk⟩
set_option maxRecDepth 100000 in
set_option maxHeartbeats 2000000 in
theorem chosen_c (m : Nat) (w : World) (hm : m < 256) :
    Calls Try.prog 108 #[.int .i64 m] w fun e w' => ∃ A c, e = .returned (.slice A (chosTo m 8).length c) ∧ w'.ownsRow w.heap.size 3 1 (.slice A (chosTo m 8).length c) (chosTo m 8).length (ints (chosTo m 8)) ∧ Below w.heap.size w w' := by
  have HS : Hid (∀ k, chosTo m (k + 1) = if bitB m k = true then chosTo m k ++ [(k : Int)] else chosTo m k) := fun k => rfl
  have HL := Lib.hid (fun k => chos_len m k)
  go_enter Try.func108, Try.ntmps108
  go_wp2_with (fail)
  go_loopg [3, 5] 8 (fun gk ov iv wr => ∃ (k : Nat) (A' : Option Addr) (c' : Nat), Hid (k + gk = 8) ∧ iv = .int .i64 (k : Int) ∧ ov = .slice A' (chosTo m k).length c' ∧ wr.ownsRow w.heap.size 3 1 (.slice A' (chosTo m k).length c') (chosTo m k).length (ints (chosTo m k)) ∧ Below w.heap.size w wr)
  case atStart => exact ⟨0, none, 0, by simp [Hid], rfl, rfl, World.ownsRow_nil _ _ _ _, Below.refl _ _⟩
  case round =>
    obtain ⟨k, A', c', HK, rfl, rfl, hown, hb⟩ := hrel
    rcases gk with _ | gi
    · obtain rfl : k = 8 := HK.out
      go_wp2_with (fail)
      go_ret
      exact ⟨A', c', rfl, hown, hb⟩
    · have hkN : k < 8 := by have := HK.out; omega
      have hkN' : (k : Int) < 8 := by omega
      have HSk := Lib.hid (HS.out k)
      have HLk := HL.out k
      have hB := bits_one hm hkN
      generalize bitB m k = z at *
      generalize chosTo m k = L at *
      cases z with
      | false =>
        go_wp2_with (fail)
        go_roundg gi
        case rel =>
          refine ⟨k + 1, A', c', by have := HK.out; show _ = _; omega, by go_num, ?_, ?_, hb⟩
          · rw [HSk.out]; rfl
          · rw [HSk.out]; exact hown
        case measure => omega
      | true =>
        obtain ⟨A2, c2, w2, hrun, hown3, hb3, _⟩ := append_int w.heap.size wr (.slice A' L.length c') L (k : Int) hown (by omega) hb.size
        have E1 := Lib.hid hrun
        have HSk' : Hid (chosTo m (k + 1) = L ++ [(k : Int)]) := HSk.out
        clear hrun hown
        go_wp2_with (at_builtin; refine wpList_append_eq rfl _ _ 40 rfl _ _ _ w2 rfl rfl E1.out ?_)
        go_roundg gi
        case rel =>
          refine ⟨k + 1, A2, c2, by have := HK.out; show _ = _; omega, by go_num, ?_, ?_, hb.trans hb3⟩
          · rw [HSk'.out]; simp
          · rw [HSk'.out]; simpa using hown3
        case measure => omega
end Go.Proofs.Ytgbjglkiaoplmaa
