/- The iterator over the points of a pulse's path. -/
import Derived.Test.YtpjdojjdhbmbjaaLeaf
namespace Go.Proofs.Ytpjdojjdhbmbjaa
open Go.RowKit Go.Shelf
attribute [local go_sem] Oper.semAt_some

/-- The point behind k segments, and the way of the next one. -/
def ptAt (m : Int) (p : List Int) : Nat → (Int × Int) × (Int × Int)
  | 0 => ((0, 0), (1, 0))
  | k + 1 => (plusW (ptAt m p k).1 (wrap64 (p.getD k 0 * (ptAt m p k).2.1), wrap64 (p.getD k 0 * (ptAt m p k).2.2)), turnW m (ptAt m p k).2)
def pathL (m : Int) (p : List Int) : List (Int × Int) := (List.range (p.length + 1)).map fun k => (ptAt m p k).1
def preL (m : Int) (p : List Int) (k : Nat) : List (Int × Int) := (List.range k).map fun k => (ptAt m p k).1
theorem preL_succ (m : Int) (p : List Int) (k : Nat) : preL m p (k + 1) = preL m p k ++ [(ptAt m p k).1] := by simp [preL, List.range_succ]
theorem preL_pre (m : Int) (p : List Int) (k : Nat) (h : k ≤ p.length) : ∃ t, pathL m p = preL m p k ++ (ptAt m p k).1 :: t := by
  refine ⟨((List.range (p.length - k)).map fun j => (ptAt m p (k + 1 + j)).1), ?_⟩
  have : p.length + 1 = k + 1 + (p.length - k) := by omega
  unfold pathL
  rw [this, List.range_add, List.map_append, List.range_succ]
  simp [preL, Function.comp_def]
theorem preL_all (m : Int) (p : List Int) : preL m p (p.length + 1) = pathL m p := rfl
theorem preL_of (m : Int) (p : List Int) (k : Nat) (h : k ≤ p.length + 1) : ∃ t, pathL m p = preL m p k ++ t := by
  refine ⟨((List.range (p.length + 1 - k)).map fun j => (ptAt m p (k + j)).1), ?_⟩
  have : p.length + 1 = k + (p.length + 1 - k) := by omega
  unfold pathL
  rw [this, List.range_add, List.map_append]
  simp [preL, Function.comp_def]

theorem points_c (A : Option Addr) (len cap : Nat) (m : Int) (w : World) :
    Calls Try.prog 57 #[.slice A len cap, .int .i64 m] w fun e w' => e = .returned (.func (.func 87) #[] #[.pointer (some ⟨w.heap.size + 1, 0, none⟩), .pointer (some ⟨w.heap.size, 0, none⟩)]) ∧ (w.alloc (.cells #[.slice A len cap] 22)).alloc (.cells #[.int .i64 m] 3) = w' := by
  go_enter Try.func57, Try.ntmps57
  go_wp2
  go_ret
  exact ⟨rfl, rfl⟩

set_option maxRecDepth 100000 in
set_option maxHeartbeats 2000000 in
theorem points_iter (w : World) (A : Option Addr) (p : List Int) (cap : Nat) (m : Int) (Bm Bp : Nat) (K : Nat → Prop) (hlen : p.length ≤ 9223372036854775806)
    (hBm : Bm < w.heap.size) (hBp : Bp < w.heap.size) (hm : w.cell? ⟨Bm, 0, none⟩ = some (.int .i64 m)) (hp : w.cell? ⟨Bp, 0, none⟩ = some (.slice A p.length cap)) (hr : Rd w A (ints p))
    (hKlt : ∀ k, K k → k < w.heap.size) (hKp : K Bp) (hKA : ∀ a, A = some a → ints p ≠ [] → K a.block) :
    Iter Try.prog 87 #[.pointer (some ⟨Bm, 0, none⟩), .pointer (some ⟨Bp, 0, none⟩)] (fun (a : Int × Int) vs _ => vs = #[.agg #[.int .i64 a.1, .int .i64 a.2]]) (pathL m p) K w := by
  intro n l J Jx W hW hJ hJx hY h0
  have hmW := (hW.cell (p := ⟨Bm, 0, none⟩) hBm).trans hm
  have hpW := (hW.cell (p := ⟨Bp, 0, none⟩) hBp).trans hp
  have hrW := hr.later hW
  replace hKlt : ∀ a : Addr, K a.block → a.block < W.heap.size := fun a h => Nat.lt_of_lt_of_le (hKlt _ h) hW.size
  refine callsIn_of_wp Try.func87 rfl trivial ?_ rfl
  simp only [Try.ntmps87, List.size_toArray, List.length_cons, List.length_nil, Nat.reduceAdd, Nat.reduceSub, Array.replicate_succ, Array.replicate_zero, List.push_toArray, List.append_toArray, List.nil_append, List.cons_append]
  have hJ0 := h0 (W.heap.size + 2) ((W.alloc (.cells #[.int .i64 0, .int .i64 0] 30)).alloc (.cells #[.int .i64 1, .int .i64 0] 30)) (bl_alloc (bl_alloc (Below.refl _ _) _) _) (by omega) (by simp)
  obtain ⟨fn, tmps, assign, body, hy, hR⟩ := hY _ [] (0, 0) _ _ hJ0 (by simp) (preL_pre m p 0 (Nat.zero_le _)) rfl
  gi_wp2
  refine ⟨wide_n _, ?_⟩
  refine hR.mono ?_
  rintro en W3 ⟨hm3, ⟨rfl, hJ3⟩ | ⟨rfl, hJx3⟩⟩
  case inr =>
    gi_wp2
    refine bodyPost_ret (results_none rfl _ _ _) rfl ?_
    exact ⟨⟨_, rfl⟩, W.heap.size + 2, by have := hm3.size; simpa using this, .inr ⟨_, preL_of m p 1 (by omega), hJx3⟩⟩
  clear hy hR fn tmps assign body hJ0 h0
  have hz0 : ∀ k, W.heap.size ≤ k → k < W.heap.size + 2 → ¬ (¬ K k ∧ ¬ zone W.heap.size (W.heap.size + 2) k) := fun k h1 h2 h => h.2 ⟨h1, h2⟩
  have hs3 : W.heap.size + 2 ≤ W3.heap.size := by have := hm3.size; simpa using this
  have hA3 : Bx W3 W.heap.size 30 #[.int .i64 0, .int .i64 0] := ((Bx.new W _ _).alloc _).mod hm3 (hz0 _ (Nat.le_refl _) (by omega))
  have hB3 : Bx W3 (W.heap.size + 1) 30 #[.int .i64 1, .int .i64 0] := by
    have := Bx.new (W.alloc (.cells #[.int .i64 0, .int .i64 0] 30)) 30 #[.int .i64 1, .int .i64 0]
    rw [World.size_alloc] at this
    exact this.mod hm3 (hz0 _ (by omega) (by omega))
  have hr3 : Rd W3 A (ints p) := ((hrW.later (bl_alloc (Below.refl _ _) _)).later (bl_alloc (Below.refl _ _) _)).mod hm3 (fun a e he _ h => h.1 (hKA a e he))
  have hp3 : W3.cell? ⟨Bp, 0, none⟩ = some (.slice A p.length cap) := by
    rw [hm3.cell (p := ⟨Bp, 0, none⟩) (by have := hW.size; simp; omega) (fun h => h.1 hKp)]
    rw [World.cell?_alloc_lt _ _ _ (by have := hW.size; simp; omega), World.cell?_alloc_lt _ _ _ (by have := hW.size; simp; omega)]
    exact hpW
  have HJ : J (W.heap.size + 2) (preL m p 1) W3 := hJ3
  clear hJ3 hm3 hmW hpW hrW hr hp hm
  gi_wp2
  gi_loopw [19] (fun i wr => ∃ (k : Nat) (x y u v : Int), k ≤ p.length ∧ i = .int .i64 k ∧ Hid (ptAt m p k = ((x, y), (u, v))) ∧ J (W.heap.size + 2) (preL m p (k + 1)) wr ∧ Bx wr W.heap.size 30 #[.int .i64 x, .int .i64 y] ∧
      Bx wr (W.heap.size + 1) 30 #[.int .i64 u, .int .i64 v] ∧ Rd wr A (ints p) ∧ W.heap.size + 2 ≤ wr.heap.size)
    (fun i _ => p.length - (intOf i).toNat)
  case atStart => exact ⟨0, 0, 0, 1, 0, Nat.zero_le _, rfl, rfl, HJ, hA3, hB3, hr3, hs3⟩
  case round =>
    obtain ⟨k, x, y, u, v, hk, rfl, hpt, hJk, hA, hB, hrk, hsz⟩ := hrel
    clear hA3 hB3 hr3 hp3 HJ hs3
    by_cases hlt : k < p.length
    · obtain ⟨b, o, rfl, hbb, hcc⟩ := hrk.at_ (k := k) (by simpa using hlt)
      have hck := hcc k _ (ints_get hlt)
      obtain ⟨hA1, hA2, hA3, hA4⟩ := hA.two
      obtain ⟨hB1, hB2, hB3, hB4⟩ := hB.two
      clear hcc
      generalize hfo : p.getD k 0 = fo at hck
      have Hfo := Lib.hid hfo
      clear hfo
      gi_wp2_with (fail)
      refine ⟨trivial, wide_n _, ?_⟩
      refine (callsIn_wide.2 (plus_c _ _ _ _ _)).mono ?_
      rintro en w4 ⟨x', y', rfl, hpl, hb4⟩
      have hm4 : Mod (zone W.heap.size (W.heap.size + 2)) wr ((w4.setCell ⟨W.heap.size, 0, none⟩ (.int .i64 x')).setCell ⟨W.heap.size, 1, none⟩ (.int .i64 y')) :=
        ((Mod.of_call hb4).setCell (.inr ⟨Nat.le_refl _, by omega⟩) _).setCell (.inr ⟨Nat.le_refl _, by omega⟩) _
      have hJ4 := hJ _ _ _ _ hJk hm4
      have hA5 := (hA.call hb4).set2 (.int .i64 x') (.int .i64 y')
      have hB5 := ((hB.call hb4).far (g' := W.heap.size) (i := 0) (by omega) (.int .i64 x')).far (g' := W.heap.size) (i := 1) (by omega) (.int .i64 y')
      obtain ⟨ha1, ha2, ha3, ha4⟩ := (hA.call hb4).two
      have hKb : ∀ {w : World} a, (some ⟨b, o, none⟩ : Option Addr) = some a → ints p ≠ [] → a.block < w.heap.size → ¬ zone W.heap.size (W.heap.size + 2) a.block := fun a e he _ h => by have := hKlt a (hKA a e he); have := h.1; omega
      have hpt1 : (ptAt m p (k + 1)).1 = (x', y') := by rw [hpl]; simp only [ptAt, hpt.out, Hfo.out]
      have hpt2 : (ptAt m p (k + 1)).2 = turnW m (u, v) := by simp only [ptAt, hpt.out]
      obtain ⟨fn, tmps, assign, body, hy, hR⟩ := hY _ _ (x', y') _ _ hJ4 (Nat.le_trans hsz hm4.size) (by rw [← hpt1]; exact preL_pre m p (k + 1) (by omega)) rfl
      rw [← hpt1, ← preL_succ] at hR
      have Hpt1 := Lib.hid hpt1
      have Hpt2 := Lib.hid hpt2
      clear hpl hpt1 hpt2 hA1 hA2 hA3 hA4 hB1 hB2 hB3 hB4 hck
      gi_wp2_with (fail)
      refine ⟨wide_n _, ?_⟩
      refine hR.mono ?_
      rintro en W6 ⟨hm6, ⟨rfl, hJ6⟩ | ⟨rfl, hJx6⟩⟩
      case inr =>
        gi_wp2
        refine bodyPost_ret (results_none rfl _ _ _) rfl ?_
        exact ⟨⟨_, rfl⟩, W.heap.size + 2, Nat.le_trans (Nat.le_trans hsz hm4.size) hm6.size, .inr ⟨_, preL_of m p (k + 2) (by omega), hJx6⟩⟩
      have hA6 := hA5.mod hm6 (hz0 _ (Nat.le_refl _) (by omega))
      have hB6 := hB5.mod hm6 (hz0 _ (by omega) (by omega))
      obtain ⟨hB1, hB2, hB3, hB4⟩ := hB6.two
      clear hy hR
      gi_wp2_with (fail)
      refine ⟨trivial, wide_n _, ?_⟩
      refine (callsIn_wide.2 (rot_c _ _ _ _)).mono ?_
      rintro en w7 ⟨u', v', rfl, htu, hb7⟩
      have hm7 : Mod (zone W.heap.size (W.heap.size + 2)) W6 ((w7.setCell ⟨W.heap.size + 1, 0, none⟩ (.int .i64 u')).setCell ⟨W.heap.size + 1, 1, none⟩ (.int .i64 v')) :=
        ((Mod.of_call hb7).setCell (.inr ⟨by omega, by omega⟩) _).setCell (.inr ⟨by omega, by omega⟩) _
      have hJ7 := hJ _ _ _ _ hJ6 hm7
      have hA7 := ((hA6.call hb7).far (g' := W.heap.size + 1) (i := 0) (by omega) (.int .i64 u')).far (g' := W.heap.size + 1) (i := 1) (by omega) (.int .i64 v')
      have hB7 := (hB6.call hb7).set2 (.int .i64 u') (.int .i64 v')
      have hs7 : W.heap.size + 2 ≤ ((w7.setCell ⟨W.heap.size + 1, 0, none⟩ (.int .i64 u')).setCell ⟨W.heap.size + 1, 1, none⟩ (.int .i64 v')).heap.size := Nat.le_trans (Nat.le_trans (Nat.le_trans hsz hm4.size) hm6.size) hm7.size
      have hr7 : Rd ((w7.setCell ⟨W.heap.size + 1, 0, none⟩ (.int .i64 u')).setCell ⟨W.heap.size + 1, 1, none⟩ (.int .i64 v')) (some ⟨b, o, none⟩) (ints p) :=
        ((hrk.mod hm4 hKb).mod hm6 (fun a e he _ h => h.1 (hKA a e he))).mod hm7 hKb
      have hpt7 : Hid (ptAt m p (k + 1) = ((x', y'), (u', v'))) := by
        have h1 := Hpt1.out
        have h2 := Hpt2.out
        rw [← htu] at h2
        exact Prod.ext h1 h2
      obtain ⟨hB1, hB2, hB3, hB4⟩ := (hB6.call hb7).two
      clear htu Hpt1 Hpt2
      gi_wp2
      go_roundw
      case rel => exact ⟨k + 1, x', y', u', v', by omega, by go_num, hpt7, hJ7, hA7, hB7, hr7, hs7⟩
      case measure => simp [intOf]; omega
    · obtain rfl : k = p.length := by omega
      gi_wp2
      go_end0
      exact ⟨⟨_, rfl⟩, W.heap.size + 2, hsz, .inl (by rw [← preL_all]; exact hJk)⟩
end Go.Proofs.Ytpjdojjdhbmbjaa
