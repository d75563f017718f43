/- The ends, areas and sums of the specification. -/
import Derived.Test.YtpjdojjdhbmbjaaSteps
import Derived.Deep.RegionWith
namespace Go.Proofs.Ytpjdojjdhbmbjaa
open Go.RowKit

def endR (m : Int) (p : List Int) : Int × Int := (stepsL m p).foldl plusW (0, 0)
theorem fold_take {β : Type} (f : β → (Int × Int) → β) (b : β) (l : List (Int × Int)) (k : Nat) (h : k < l.length) : (l.take (k + 1)).foldl f b = f ((l.take k).foldl f b) (l.getD k (0, 0)) := by
  rw [List.take_succ_eq_append_getElem h, List.foldl_append]; simp [h]
theorem stepsL_len (m : Int) (p : List Int) : (stepsL m p).length = p.length := by simp [stepsL]

set_option maxHeartbeats 2000000 in
theorem rend_c (A : Option Addr) (p : List Int) (cap : Nat) (m : Int) (w : World) (hlen : p.length ≤ 1000) (hr : Rd w A (ints p)) :
    Calls Try.prog 59 #[.slice A p.length cap, .int .i64 m] w fun e w' => ∃ u v, e = .returned (.agg #[.int .i64 u, .int .i64 v]) ∧ (u, v) = endR m p ∧ Below w.heap.size w w' := by
  have hb0 : Below w.heap.size w ((w.alloc (.cells #[.int .i64 0, .int .i64 0] 30)).alloc (.cells #[.int .i64 0, .int .i64 0] 30)) := bl_alloc (bl_alloc (Below.refl _ _) _) _
  have x0 : Bx ((w.alloc (.cells #[.int .i64 0, .int .i64 0] 30)).alloc (.cells #[.int .i64 0, .int .i64 0] 30)) w.heap.size 30 #[.int .i64 0, .int .i64 0] := (Bx.newAt rfl).alloc _
  have x1 : Bx ((w.alloc (.cells #[.int .i64 0, .int .i64 0] 30)).alloc (.cells #[.int .i64 0, .int .i64 0] 30)) (w.heap.size + 1) 30 #[.int .i64 0, .int .i64 0] := Bx.newAt (by simp)
  have hs0 : ((w.alloc (.cells #[.int .i64 0, .int .i64 0] 30)).alloc (.cells #[.int .i64 0, .int .i64 0] 30)).heap.size = w.heap.size + 2 := by simp
  go_enter Try.func59, Try.ntmps59
  go_wp2_with (fail)
  refine (steps_c _ _ _ _ _ hlen (hr.later hb0)).mono ?_
  rintro e w1 ⟨A', c, rfl, hown, hb1⟩
  have x0' := x0.call hb1
  have x1' := x1.call hb1
  have hbw := bl_call hb0 hb1
  rw [hs0] at hown
  have hs1 : w.heap.size + 2 ≤ w1.heap.size := by rw [← hs0]; exact hb1.size
  generalize (w.alloc (.cells #[.int .i64 0, .int .i64 0] 30)).alloc (.cells #[.int .i64 0, .int .i64 0] 30) = w0 at *
  clear x0 x1 hb0 hs0 hb1 hr
  obtain ⟨hrd, hA⟩ := own_rd hown
  clear hown
  go_wp2_with (fail)
  go_loopw [7] (fun i wr => ∃ (k : Nat) (x y : Int), k ≤ p.length ∧ i = .int .i64 k ∧ Hid ((x, y) = ((stepsL m p).take k).foldl plusW (0, 0)) ∧ Bx wr (w.heap.size + 1) 30 #[.int .i64 x, .int .i64 y] ∧ Bx wr w.heap.size 30 #[.int .i64 0, .int .i64 0] ∧ Rd wr A' (cellsP (stepsL m p)) ∧ Below w.heap.size w wr) (fun i _ => p.length - (intOf i).toNat)
  case atStart => exact ⟨0, 0, 0, Nat.zero_le _, rfl, rfl, x1', x0', hrd, hbw⟩
  case round =>
    obtain ⟨k, x, y, hk, rfl, hxy, h1, h0, hrd', hb⟩ := hrel
    clear x1' x0' hrd hbw
    by_cases hlt : k < p.length
    · have hls := stepsL_len m p
      obtain ⟨b, o, rfl, hbl, hc⟩ := hrd'.at_ (k := k * 2) (by simp [hls]; omega)
      have hbA := hA _ rfl
      obtain ⟨hg1, hg2⟩ := cellsP_get (stepsL m p) k (by rw [hls]; exact hlt)
      have hc1 := hc _ _ hg1
      have hc2 := hc _ _ hg2
      have HF := Lib.hid (fold_take plusW (0, 0) (stepsL m p) k (by rw [hls]; exact hlt))
      generalize hq : (stepsL m p).getD k (0, 0) = q at hc1 hc2 HF
      obtain ⟨s, t⟩ := q
      obtain ⟨j1, j2, j3, j4⟩ := h1.two
      clear hq hc hg1 hg2 hls
      rw [← Nat.add_assoc] at hc2
      go_wp2_with (fail)
      go_region_with (go_at_call 90; refine (rplus_c _ _ _ _ _).mono ?_; rintro e w3 ⟨u, v, rfl, huv, hb3⟩; have HU := Lib.hid huv; clear huv; have i1 := (h1.drew.call hb3).two)
      all_goals go_wp2_with (fail)
      all_goals exact ⟨⟨k + 1, u, v, by omega, by go_num, by show _ = _; rw [HF.out, ← hxy.out]; exact HU.out, (h1.drew.call hb3).set2 _ _, ((h0.drew.call hb3).far (by omega) _).far (by omega) _,
        ((show Rd wr.drew (some ⟨b, o, none⟩) (cellsP (stepsL m p)) from hrd').later hb3).mod (S := fun g => g = w.heap.size + 1) (((Mod.refl (fun g => g = w.heap.size + 1) w3).setCell (.inr rfl) _).setCell (.inr rfl) _) (fun a e _ _ h => by cases e; have h1 : b = w.heap.size + 1 := h; have h2 : w.heap.size + 2 ≤ b := hbA; omega),
        bl_set (bl_set (hb.drew.trans (hb3.mono hb.size)) (by omega) _) (by omega) _⟩, by simp [intOf]; omega⟩
    · obtain rfl : k = p.length := by omega
      obtain ⟨j1, j2, j3, j4⟩ := h1.two
      obtain ⟨l1, l2, l3, l4⟩ := h0.two
      go_wp2_with (fail)
      obtain ⟨k1, k2, _, _⟩ := (h0.set2 (.int .i64 x) (.int .i64 y)).two
      exact bodyPost_ret (v := .agg #[.int .i64 x, .int .i64 y]) (by simp [results, Try.results59, go_sem, k1, k2]) rfl ⟨x, y, rfl, by rw [hxy.out, endR, List.take_of_length_le (by rw [stepsL_len]; exact Nat.le_refl _)], bl_set (bl_set hb (Nat.le_refl _) _) (Nat.le_refl _) _⟩

/-- The area: the crosses of all steps before others. -/
def areaIn (l : List (Int × Int)) (j k : Nat) (n : Int) : Int := (List.range k).foldl (fun n i => wrap64 (n + crossW (l.getD i (0, 0)) (l.getD j (0, 0)))) n
def areaTo (l : List (Int × Int)) (j : Nat) : Int := (List.range j).foldl (fun n j => areaIn l j j n) 0
def areaR (m : Int) (p : List Int) : Int := areaTo (stepsL m p) p.length
theorem areaIn_succ (l : List (Int × Int)) (j k : Nat) (n : Int) : areaIn l j (k + 1) n = wrap64 (areaIn l j k n + crossW (l.getD k (0, 0)) (l.getD j (0, 0))) := by simp [areaIn, List.range_succ]
theorem areaTo_succ (l : List (Int × Int)) (j : Nat) : areaTo l (j + 1) = areaIn l j j (areaTo l j) := by simp [areaTo, List.range_succ]

set_option maxHeartbeats 2000000 in
theorem rarea_c (A : Option Addr) (p : List Int) (cap : Nat) (m : Int) (w : World) (hlen : p.length ≤ 1000) (hr : Rd w A (ints p)) :
    Calls Try.prog 63 #[.slice A p.length cap, .int .i64 m] w fun e w' => e = .returned (.int .i64 (areaR m p)) ∧ Below w.heap.size w w' := by
  go_enter Try.func63, Try.ntmps63
  go_wp2_with (fail)
  refine (steps_c _ _ _ _ _ hlen hr).mono ?_
  rintro e w1 ⟨A', c, rfl, hown, hb1⟩
  have hrd := (own_rd hown).1
  have hls := stepsL_len m p
  have HR : Hid (areaR m p = areaTo (stepsL m p) p.length) := rfl
  generalize stepsL m p = l at hrd hls HR
  have HL := Lib.hid hls
  clear hls hown hr
  go_wp2_with (fail)
  go_loopw [5, 7, 8] (fun nv jv _ wr => ∃ (j : Nat) (n : Int), j ≤ p.length ∧ jv = .int .i64 j ∧ nv = .int .i64 n ∧ Hid (n = areaTo l j) ∧ Rd wr A' (cellsP l) ∧ Below w.heap.size w wr) (fun _ jv _ _ => p.length - (intOf jv).toNat)
  case atStart => exact ⟨0, 0, Nat.zero_le _, rfl, rfl, rfl, hrd, hb1⟩
  case round =>
    obtain ⟨j, n, hj, rfl, rfl, hn, hrd', hb⟩ := hrel
    clear hrd hb1
    by_cases hlt : j < p.length
    · obtain ⟨b, o, rfl, hbl, hcx⟩ := hrd'.at_ (k := j * 2) (by simp [HL.out]; omega)
      clear hbl hcx
      go_wp2_with (fail)
      obtain ⟨wo, rfl⟩ : ∃ wo : World, wo = wr := ⟨_, rfl⟩
      go_loopw [5, 8] (fun nv iv wr => ∃ (i : Nat) (n' : Int), i ≤ j ∧ iv = .int .i64 i ∧ nv = .int .i64 n' ∧ Hid (n' = areaIn l j i n) ∧ Rd wr (some ⟨b, o, none⟩) (cellsP l) ∧ Below w.heap.size w wr) (fun _ iv _ => j - (intOf iv).toNat)
      case atStart => exact ⟨0, n, Nat.zero_le _, rfl, rfl, rfl, hrd', hb⟩
      case round =>
        obtain ⟨i, n', hi, rfl, rfl, hn', hrd2, hb2⟩ := hrel
        clear hrd' hb
        by_cases hlti : i < j
        · obtain ⟨b', o', hbo, hbl, hc⟩ := hrd2.at_ (k := i * 2) (by simp [HL.out]; omega)
          cases hbo
          obtain ⟨hg1, hg2⟩ := cellsP_get l i (by rw [HL.out]; omega)
          obtain ⟨hg3, hg4⟩ := cellsP_get l j (by rw [HL.out]; omega)
          have hc1 := hc _ _ hg1
          have hc2 := hc _ _ hg2
          have hc3 := hc _ _ hg3
          have hc4 := hc _ _ hg4
          have HF := Lib.hid (areaIn_succ l j i n)
          rw [← Nat.add_assoc] at hc2 hc4
          generalize hq : l.getD i (0, 0) = q at hc1 hc2 HF
          generalize hq' : l.getD j (0, 0) = q' at hc3 hc4 HF
          obtain ⟨s, t⟩ := q
          obtain ⟨s', t'⟩ := q'
          clear hq hq' hc hg1 hg2 hg3 hg4
          go_wp2_with (fail)
          go_region_with (go_at_call 92; refine (rcross_c _ _ _ _ _).mono ?_; rintro e w3 ⟨rfl, hb3⟩)
          all_goals go_wp2_with (fail)
          all_goals exact ⟨⟨i + 1, _, by omega, by go_num, rfl, by show _ = _; rw [HF.out, ← hn'.out], (show Rd wr.drew (some ⟨b, o, none⟩) (cellsP l) from hrd2).later hb3, hb2.drew.trans (hb3.mono hb2.size)⟩, by simp [intOf]; omega⟩
        · have hij : i = j := by omega
          subst hij
          have HN : Hid (n' = areaTo l (i + 1)) := by show _ = _; rw [areaTo_succ, ← hn.out]; exact hn'.out
          clear hn hn'
          go_wp2_with (fail)
          go_roundw
          case rel => exact ⟨i + 1, n', by omega, by go_num, rfl, HN.out, hrd2, hb2⟩
          case measure => simp [intOf]; omega
    · obtain rfl : j = p.length := by omega
      go_wp2_with (fail)
      go_ret
      exact ⟨ret_i (by rw [HR.out, hn.out]), hb⟩
end Go.Proofs.Ytpjdojjdhbmbjaa
