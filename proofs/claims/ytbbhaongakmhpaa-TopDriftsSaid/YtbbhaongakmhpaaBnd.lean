/- Bounds at a time: package drift's. -/
import Derived.Test.YtbbhaongakmhpaaClp
namespace Go.Proofs.Ytbbhaongakmhpaa
open Go.RowKit

def lowC (l : List T3) (r t : Int) : Nat → Int
  | 0 => -9223372036854775808
  | k + 1 => lowTo l r t k
def highC (l : List T3) (r t : Int) : Nat → Int
  | 0 => 9223372036854775807
  | k + 1 => highTo l r t k
theorem lowC_all {l : List T3} {r t : Int} (h : 0 < l.length) : lowC l r t l.length = lowB l r t := by
  obtain ⟨n, hn⟩ : ∃ n, l.length = n + 1 := ⟨l.length - 1, by omega⟩
  unfold lowB; rw [hn]; rfl
theorem highC_all {l : List T3} {r t : Int} (h : 0 < l.length) : highC l r t l.length = highB l r t := by
  obtain ⟨n, hn⟩ : ∃ n, l.length = n + 1 := ⟨l.length - 1, by omega⟩
  unfold highB; rw [hn]; rfl
/-- What a round does to both bounds; the numbers are small. -/
theorem bounds_next {l : List T3} {r t : Int} (hf : Fit l r) (ht : 0 ≤ t) (ht2 : t ≤ 2000) {k : Nat} (hk : k < l.length) :
    wrap64 (r * farI (tm l k) t) = r * farI (tm l k) t ∧ wrap64 (lw l k - r * farI (tm l k) t) = lw l k - r * farI (tm l k) t ∧ wrap64 (hg l k + r * farI (tm l k) t) = hg l k + r * farI (tm l k) t ∧
    max (lowC l r t k) (lw l k - r * farI (tm l k) t) = lowC l r t (k + 1) ∧ min (highC l r t k) (hg l k + r * farI (tm l k) t) = highC l r t (k + 1) := by
  have h0 := way_le hf.r0 hf.r1 (hf.t0 k hk) (Int.le_trans (hf.t1 k hk) (by omega)) ht ht2
  have h1 := hf.lo k hk
  have h2 := hf.lo1 k hk
  have h3 := hf.hi k hk
  have h4 := hf.hi0 k hk
  refine ⟨IntWalk.wrap64_in _ ⟨by omega, by omega⟩, IntWalk.wrap64_in _ ⟨by omega, by omega⟩, IntWalk.wrap64_in _ ⟨by omega, by omega⟩, ?_, ?_⟩
  · cases k with
    | zero => simp only [lowC, lowTo]; omega
    | succ k => rfl
  · cases k with
    | zero => simp only [highC, highTo]; omega
    | succ k => rfl
set_option maxRecDepth 100000 in
set_option maxHeartbeats 2000000 in
theorem boundsAt_c (A : Option Addr) (l : List T3) (cap : Nat) (r t : Int) (w : World) (h0 : 0 < l.length) (hlen : l.length ≤ 1000) (hf : Fit l r) (ht : 0 ≤ t) (ht2 : t ≤ 2000) (hr : Rd w A (cellsT l)) :
    Calls Try.prog 71 #[.slice A l.length cap, .int .i64 r, .int .i64 t] w fun e w' => e = .returned (.agg #[.int .i64 (lowB l r t), .int .i64 (highB l r t)]) ∧ Below w.heap.size w w' := by
  have HN := Lib.hid (fun k (h : k < l.length) => bounds_next hf ht ht2 h)
  have HT := Lib.hid (fun k (h : k < l.length) => (⟨hf.t0 k h, hf.t1 k h⟩ : 0 ≤ tm l k ∧ tm l k ≤ 1000))
  have HL := Lib.hid (@lowC_all l r t h0)
  have HH := Lib.hid (@highC_all l r t h0)
  clear hf h0
  go_enter Try.func71, Try.ntmps71
  go_wp2_with (fail)
  go_loopg [7, 8, 14] l.length (fun gk av bv iv wr => ∃ k : Nat, Hid (k + gk = l.length) ∧ iv = .int .i64 (k : Int) ∧ av = .int .i64 (lowC l r t k) ∧ bv = .int .i64 (highC l r t k) ∧ Bx wr w.heap.size 65 #[.int .i64 0, .int .i64 0] ∧ Below w.heap.size w wr)
  case atStart => exact ⟨0, by simp [Hid], rfl, rfl, rfl, Bx.new _ _ _, bl_alloc (Below.refl _ _) _⟩
  case round =>
    obtain ⟨k, HK, rfl, rfl, rfl, hx, hb⟩ := hrel
    rcases gk with _ | gi
    · obtain rfl : k = l.length := HK.out
      obtain ⟨y0, y1, y2, y3⟩ := hx.two
      rw [HL.out, HH.out]
      have hbF := fun (u v : Value) => bl_set (bl_set hb (g := w.heap.size) (i := 0) (Nat.le_refl _) u) (g := w.heap.size) (i := 1) (Nat.le_refl _) v
      go_wp2_with (fail)
      refine bodyPost_ret (results_cell_row rfl _ _ w.heap.size 65 _ (0, 0) _ rfl (hx.set2 _ _) Try.underlying65 rfl (by kernel_rfl)) rfl ?_
      exact ⟨rfl, hbF _ _⟩
    · have hlt : k < l.length := by have := HK.out; omega
      have hlt' : (k : Int) < (l.length : Int) := by omega
      obtain ⟨p1, p2, p3, p4, p5⟩ := HN.out k hlt
      have HP4 := Lib.hid p4
      have HP5 := Lib.hid p5
      obtain ⟨q1, q2⟩ := HT.out k hlt
      clear p4 p5
      obtain ⟨b', o, rfl, hbl, c0, c1, c2⟩ := (hr.later hb).tri hlt
      have HD := fun w => Lib.hid (distance_c (tm l k) t w ⟨by omega, by omega⟩ ⟨by omega, by omega⟩)
      unfold tm lw hg at *
      generalize l.getD k t0 = g at *
      obtain ⟨g0, g1, g2⟩ := g
      simp only [] at c0 c1 c2 p1 p2 p3 q1 q2 HP4 HP5 HD
      generalize farI g0 t = f at *
      have s2 : IntKind.i64.wrap (g1 - r * f) = g1 - r * f := by rw [IntWalk.i64_left]; exact p2
      have s3 : IntKind.i64.wrap (g2 + r * f) = g2 + r * f := by rw [IntWalk.i64_left]; exact p3
      have hba := fun o => hx.alloc o
      have hbb := fun o => bl_alloc hb o
      go_wp2_with (go_at_call 67; refine (HD _).out.mono ?_; rintro e w1 ⟨rfl, rfl⟩)
      all_goals
        go_roundg gi
        case rel =>
          refine ⟨k + 1, by have := HK.out; show _ = _; omega, by go_num, ?_, ?_, hba _, hbb _⟩
          · rw [← HP4.out]; first | rfl | (congr 1; omega)
          · rw [← HP5.out]; first | rfl | (congr 1; omega)
        case measure => omega
end Go.Proofs.Ytbbhaongakmhpaa
