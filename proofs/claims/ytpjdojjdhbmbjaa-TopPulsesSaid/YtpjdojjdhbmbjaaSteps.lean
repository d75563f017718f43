/- The steps of a pulse, as the specification has them; its ends, areas and sums. -/
import Derived.Test.YtpjdojjdhbmbjaaVal
import Derived.Test.YtpjdojjdhbmbjaaOwn
import Derived.WalkSmall
namespace Go.Proofs.Ytpjdojjdhbmbjaa
open Go.RowKit

theorem pt_info : (Try.prog.info? 30).map (fun i => (i.zero, i.size, i.bytes)) = some (some (.agg #[.int .i64 0, .int .i64 0]), 2, 16) := by kernel_rfl

def stepAt (m : Int) (p : List Int) (j : Nat) : Int × Int := turnW (wrap64 (m * j)) (p.getD j 0, 0)
def stepsL (m : Int) (p : List Int) : List (Int × Int) := (List.range p.length).map (stepAt m p)
def stepsTo (m : Int) (p : List Int) (k : Nat) : List (Int × Int) := (List.range k).map (stepAt m p)
theorem stepsTo_succ (m : Int) (p : List Int) (k : Nat) : stepsTo m p (k + 1) = stepsTo m p k ++ [stepAt m p k] := by simp [stepsTo, List.range_succ]

set_option maxHeartbeats 1000000 in
theorem steps_c (A : Option Addr) (p : List Int) (cap : Nat) (m : Int) (w : World) (hlen : p.length ≤ 1000) (hr : Rd w A (ints p)) :
    Calls Try.prog 89 #[.slice A p.length cap, .int .i64 m] w fun e w' => ∃ A' c, e = .returned (.slice A' p.length c) ∧ w'.ownsRow w.heap.size 30 2 (.slice A' p.length c) p.length (cellsP (stepsL m p)) ∧ Below w.heap.size w w' := by
  obtain ⟨i0, hi, hz0, hz1, hz2⟩ := info_parts pt_info
  go_enter Try.func89, Try.ntmps89
  go_wp2
  go_loopw [5, 6] (fun v i wr => ∃ k : Nat, k ≤ p.length ∧ i = .int .i64 k ∧ wr.ownsRow w.heap.size 30 2 v k (cellsP (stepsTo m p k)) ∧ Below w.heap.size w wr) (fun _ i _ => p.length - (intOf i).toNat)
  case atStart => exact ⟨0, Nat.zero_le _, rfl, World.ownsRow_nil _ _ _ _, Below.refl _ _⟩
  case round =>
    obtain ⟨k, hk, rfl, hown, hb⟩ := hrel
    by_cases hlt : k < p.length
    · obtain ⟨b, o, rfl, _, hc⟩ := (hr.later hb).at_ (k := k) (by simpa using hlt)
      have hck := hc k _ (ints_get hlt)
      clear hc
      have HS : Hid (stepAt m p k = turnW (wrap64 (m * k)) (p.getD k 0, 0)) := rfl
      have HT := Lib.hid (stepsTo_succ m p k)
      generalize p.getD k 0 = f at hck HS
      generalize stepsTo m p k = L at hown HT
      go_wp2_with (fail)
      refine (rturn_c _ _ _ _).mono ?_
      rintro e w2 ⟨u, v', rfl, huv, hb2⟩
      have HU : Hid (stepAt m p k = (u, v')) := by show _ = _; rw [HS.out, huv]
      have hown2 := own_call hown hb2
      have hb3 := bl_call hb hb2
      clear huv hown
      go_wp2_with (at_builtin; refine wpList_append_own _ rfl _ _ 25 rfl w.heap.size 30 i0 _ 2 16 Try.underlying25 hi hz0 hz1 hz2 rfl (by decide) _ _ _ rfl (hown2.alloc _) ⟨w2.heap.size, 0, none⟩ 1 1 [.int .i64 u, .int .i64 v'] rfl rfl ?c1 ?c2 ?c3 ?c4 ?c5 ?_)
      case c1 =>
        intro j x hj
        have hadd : (⟨w2.heap.size, 0, none⟩ : Addr).add j = ⟨w2.heap.size, j, none⟩ := by unfold Addr.add; split <;> simp_all
        rw [hadd]
        match j, hj with
        | 0, hj => simp at hj; subst hj; simp
        | 1, hj => simp at hj; subst hj; simp
      case c2 => intro x hx; simp at hx; rcases hx with rfl | rfl <;> rfl
      case c3 => unfold maxLen; omega
      case c4 => omega
      case c5 => have := hb3.size; simp; omega
      intro v2 w4 hown4 hg4 _
      have hb4 : Below w.heap.size w w4 := (bl_alloc hb3 _).trans (grown_below (hown2.alloc _) hg4 (by have := hb3.size; simp; omega))
      have HO : Hid (w4.ownsRow w.heap.size 30 2 v2 (k + 1) (cellsP (stepsTo m p (k + 1)))) := by
        show World.ownsRow _ _ _ _ _ _ _
        rw [HT.out, HU.out, cellsP_snoc]; exact hown4
      clear hown4 hg4 hown2
      go_wp2_with (fail)
      go_roundw
      case rel => exact ⟨k + 1, by omega, by go_num, HO.out, hb4⟩
      case measure => simp [intOf]; omega
    · obtain rfl : k = p.length := by omega
      obtain ⟨A', c, rfl⟩ := own_form hown
      go_wp2_with (fail)
      go_ret
      exact ⟨A', c, rfl, hown, hb⟩
end Go.Proofs.Ytpjdojjdhbmbjaa
