/- The sums of the specification. -/
import Derived.Test.YtpjdojjdhbmbjaaRend
import Derived.StillTailTactics
namespace Go.Proofs.Ytpjdojjdhbmbjaa
open Go.RowKit

def sumStep (n : Nat) (l : List (Int × Int)) (o : Int × Int) (j : Nat) : Int × Int := plusW o (wrap64 ((n - j : Int) * (l.getD j (0, 0)).1), wrap64 ((n - j : Int) * (l.getD j (0, 0)).2))
def sumTo (n : Nat) (l : List (Int × Int)) (k : Nat) : Int × Int := (List.range k).foldl (sumStep n l) (0, 0)
def sumR (m : Int) (p : List Int) : Int × Int := sumTo p.length (stepsL m p) p.length
theorem sumTo_succ (n : Nat) (l : List (Int × Int)) (k : Nat) : sumTo n l (k + 1) = plusW (sumTo n l k) (wrap64 ((n - k : Int) * (l.getD k (0, 0)).1), wrap64 ((n - k : Int) * (l.getD k (0, 0)).2)) := by simp [sumTo, List.range_succ, sumStep]

set_option maxRecDepth 100000 in
set_option maxHeartbeats 2000000 in
theorem rsum_c (A : Option Addr) (p : List Int) (cap : Nat) (m : Int) (w : World) (hlen : p.length ≤ 1000) (hr : Rd w A (ints p)) :
    Calls Try.prog 65 #[.slice A p.length cap, .int .i64 m] w fun e w' => ∃ u v, e = .returned (.agg #[.int .i64 u, .int .i64 v]) ∧ (u, v) = sumR m p ∧ Below w.heap.size w w' := by
  have hb0 : Below w.heap.size w ((w.alloc (.cells #[.int .i64 0, .int .i64 0] 30)).alloc (.cells #[.int .i64 0, .int .i64 0] 30)) := bl_alloc (bl_alloc (Below.refl _ _) _) _
  have x0 : Bx ((w.alloc (.cells #[.int .i64 0, .int .i64 0] 30)).alloc (.cells #[.int .i64 0, .int .i64 0] 30)) w.heap.size 30 #[.int .i64 0, .int .i64 0] := (Bx.newAt rfl).alloc _
  have x1 : Bx ((w.alloc (.cells #[.int .i64 0, .int .i64 0] 30)).alloc (.cells #[.int .i64 0, .int .i64 0] 30)) (w.heap.size + 1) 30 #[.int .i64 0, .int .i64 0] := Bx.newAt (by simp)
  have hs0 : ((w.alloc (.cells #[.int .i64 0, .int .i64 0] 30)).alloc (.cells #[.int .i64 0, .int .i64 0] 30)).heap.size = w.heap.size + 2 := by simp
  go_enter Try.func65, Try.ntmps65
  go_wp2_with (fail)
  refine (steps_c _ _ _ _ _ hlen (hr.later hb0)).mono ?_
  rintro e w1 ⟨A', c, rfl, hown, hb1⟩
  have x0' := x0.call hb1
  have x1' := x1.call hb1
  have hbw := bl_call hb0 hb1
  rw [hs0] at hown
  have hs1 : w.heap.size + 2 ≤ w1.heap.size := by rw [← hs0]; exact hb1.size
  generalize (w.alloc (.cells #[.int .i64 0, .int .i64 0] 30)).alloc (.cells #[.int .i64 0, .int .i64 0] 30) = w0 at *
  clear x0 x1 hb0 hs0 hb1 hr
  obtain ⟨hrd, hA⟩ := own_rd hown
  clear hown
  have hls := stepsL_len m p
  have HR : Hid (sumR m p = sumTo p.length (stepsL m p) p.length) := rfl
  generalize stepsL m p = l at hrd hls HR
  have HL := Lib.hid hls
  clear hls
  go_wp2_with (fail)
  go_loopw [7] (fun i wr => ∃ (k : Nat) (x y : Int), k ≤ p.length ∧ i = .int .i64 k ∧ Hid ((x, y) = sumTo p.length l k) ∧ Bx wr (w.heap.size + 1) 30 #[.int .i64 x, .int .i64 y] ∧ Bx wr w.heap.size 30 #[.int .i64 0, .int .i64 0] ∧ Rd wr A' (cellsP l) ∧ Below w.heap.size w wr) (fun i _ => p.length - (intOf i).toNat)
  case atStart => exact ⟨0, 0, 0, Nat.zero_le _, rfl, rfl, x1', x0', hrd, hbw⟩
  case round =>
    obtain ⟨k, x, y, hk, rfl, hxy, h1, h0, hrd', hb⟩ := hrel
    clear x1' x0' hrd hbw
    by_cases hlt : k < p.length
    · obtain ⟨b, o, rfl, hbl, hc⟩ := hrd'.at_ (k := k * 2) (by simp [HL.out]; omega)
      have hbA := hA _ rfl
      obtain ⟨hg1, hg2⟩ := cellsP_get l k (by rw [HL.out]; exact hlt)
      have hc1 := hc _ _ hg1
      have hc2 := hc _ _ hg2
      have HF := Lib.hid (sumTo_succ p.length l k)
      generalize hq : l.getD k (0, 0) = q at hc1 hc2 HF
      obtain ⟨s, t⟩ := q
      obtain ⟨j1, j2, j3, j4⟩ := h1.two
      clear hq hc hg1 hg2
      rw [← Nat.add_assoc] at hc2
      have hkl : (k : Int) < (p.length : Int) := by omega
      go_wp2_with (fail)
      go_still_tail 16, (by kernel_rfl)
      change wpList _ _ _ _ _ wr.drew
      have hb' : Below w.heap.size w wr.drew := hb.drew
      have h1' : Bx wr.drew (w.heap.size + 1) 30 #[.int .i64 x, .int .i64 y] := h1
      have h0' : Bx wr.drew w.heap.size 30 #[.int .i64 0, .int .i64 0] := h0
      have hrd2 : Rd wr.drew (some ⟨b, o, none⟩) (cellsP l) := hrd'
      clear hb h1 h0 hrd' j1 j2 j3 j4 hc1 hc2 hbl
      generalize wr.drew = w2 at *
      go_wp2_with (fail)
      refine (rplus_c _ _ _ _ _).mono ?_
      rintro e w3 ⟨u, v, rfl, huv, hb3⟩
      have HU : Hid ((u, v) = sumTo p.length l (k + 1)) := by show _ = _; rw [HF.out, ← hxy.out]; exact huv
      obtain ⟨i1, i2, i3, i4⟩ := (h1'.call hb3).two
      clear huv
      go_wp2_with (fail)
      go_roundw
      case rel => exact ⟨k + 1, u, v, by omega, by go_num, HU.out, (h1'.call hb3).set2 _ _, ((h0'.call hb3).far (by omega) _).far (by omega) _,
        (hrd2.later hb3).mod (S := fun g => g = w.heap.size + 1) (((Mod.refl (fun g => g = w.heap.size + 1) w3).setCell (.inr rfl) _).setCell (.inr rfl) _) (fun a e _ _ h => by cases e; have h1 : b = w.heap.size + 1 := h; have h2 : w.heap.size + 2 ≤ b := hbA; omega),
        bl_set (bl_set (bl_call hb' hb3) (by omega) _) (by omega) _⟩
      case measure => simp [intOf]; omega
    · obtain rfl : k = p.length := by omega
      obtain ⟨j1, j2, j3, j4⟩ := h1.two
      obtain ⟨l1, l2, l3, l4⟩ := h0.two
      go_wp2_with (fail)
      obtain ⟨k1, k2, _, _⟩ := (h0.set2 (.int .i64 x) (.int .i64 y)).two
      exact bodyPost_ret (v := .agg #[.int .i64 x, .int .i64 y]) (by simp [results, Try.results65, go_sem, k1, k2]) rfl ⟨x, y, rfl, by rw [hxy.out, HR.out], bl_set (bl_set hb (Nat.le_refl _) _) (Nat.le_refl _) _⟩
end Go.Proofs.Ytpjdojjdhbmbjaa
