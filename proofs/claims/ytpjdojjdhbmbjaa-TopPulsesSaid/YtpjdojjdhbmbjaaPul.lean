/- The iterators over the pulses of a search. -/
import Derived.Test.YtpjdojjdhbmbjaaAdv
import Derived.Test.YtpjdojjdhbmbjaaClo
import Derived.Sort.LoopGhostIn
namespace Go.Proofs.Ytpjdojjdhbmbjaa
open Go.RowKit Go.Shelf
attribute [local go_sem] Oper.semAt_some

/-- The pulses of a search, in their order. -/
def pulsesL (f n : Nat) : List (List Int) := (List.range ((2 * f + 1) ^ n)).map (pAt f n)
def pulsesTo (f n k : Nat) : List (List Int) := (List.range k).map (pAt f n)
theorem pulsesTo_succ (f n k : Nat) : pulsesTo f n (k + 1) = pulsesTo f n k ++ [pAt f n k] := by simp [pulsesTo, List.range_succ]
theorem pulses_pre (f n k : Nat) (h : k < (2 * f + 1) ^ n) : ∃ t, pulsesL f n = pulsesTo f n k ++ pAt f n k :: t := by
  refine ⟨(List.range ((2 * f + 1) ^ n - (k + 1))).map (fun j => pAt f n (k + 1 + j)), ?_⟩
  have : (2 * f + 1) ^ n = k + 1 + ((2 * f + 1) ^ n - (k + 1)) := by omega
  unfold pulsesL
  rw [this, List.range_add, List.map_append, List.range_succ]
  simp [pulsesTo, Function.comp_def]
theorem pulses_of (f n k : Nat) (h : k ≤ (2 * f + 1) ^ n) : ∃ t, pulsesL f n = pulsesTo f n k ++ t := by
  refine ⟨(List.range ((2 * f + 1) ^ n - k)).map (fun j => pAt f n (k + j)), ?_⟩
  have : (2 * f + 1) ^ n = k + ((2 * f + 1) ^ n - k) := by omega
  unfold pulsesL
  rw [this, List.range_add, List.map_append]
  simp [pulsesTo, Function.comp_def]

theorem int_info : (Try.prog.info? 3).map (fun i => (i.zero, i.size, i.bytes)) = some (some (.int .i64 0), 1, 8) := by kernel_rfl

/-- A row of n times the number x. -/
def sameRow (n : Nat) (x : Int) : List Int := List.replicate n x
theorem make_ints (n : Nat) (hn : n ≤ 100) (w : World) : ∃ cs, (Instr.makeSlice 22 (.int .i64 n) (.int .i64 n)).run Try.prog w = .ok (.slice (some ⟨w.heap.size, 0, none⟩) n n) (w.alloc (.cells cs 3)) ∧ cs = (ints (sameRow n 0)).toArray := by
  obtain ⟨i0, hi, hz0, hz1, hz2⟩ := info_parts int_info
  have h := run_make (P := Try.prog) w 22 3 i0 _ Try.underlying22 hi hz0 .i64 .i64 (n : Int) (n : Int) (by omega) (by omega) (by rw [hz2]; omega) (by omega)
  simp only [Int.toNat_natCast] at h
  refine ⟨_, h, ?_⟩
  rw [hz1, Nat.mul_one]
  apply Array.ext
  · simp [size_madeCells, sameRow, ints]
  · intro i h1 h2
    simp [madeCells, sameRow, ints, Value.cells]
    rw [Nat.mod_one]; rfl

theorem pulses_c (n f : Int) (w : World) :
    Calls Try.prog 96 #[.int .i64 n, .int .i64 f] w fun e w' => e = .returned (.func (.func 102) #[] #[.pointer (some ⟨w.heap.size, 0, none⟩), .pointer (some ⟨w.heap.size + 1, 0, none⟩)]) ∧ (w.alloc (.cells #[.int .i64 n] 3)).alloc (.cells #[.int .i64 f] 3) = w' := by
  go_enter Try.func96, Try.ntmps96
  go_wp2
  go_ret
  exact ⟨rfl, rfl⟩

/-- A pulse, handed to yield: a slice that reads so. -/
def EncL (x : List Int) (vs : Array Value) (W : World) : Prop := ∃ A c, vs = #[.slice A x.length c] ∧ Rd W A (ints x)

set_option maxRecDepth 100000 in
set_option maxHeartbeats 2000000 in
theorem pulses_iter (w : World) (n f : Nat) (hn : n ≤ 6) (hf : f ≤ 2) (Bn Bf : Nat) (K : Nat → Prop)
    (hBn : Bn < w.heap.size) (hBf : Bf < w.heap.size) (hcn : w.cell? ⟨Bn, 0, none⟩ = some (.int .i64 n)) (hcf : w.cell? ⟨Bf, 0, none⟩ = some (.int .i64 f)) (hKf : K Bf) :
    Iter Try.prog 102 #[.pointer (some ⟨Bn, 0, none⟩), .pointer (some ⟨Bf, 0, none⟩)] EncL (pulsesL f n) K w := by
  intro n' l J Jx W hW hJ hJx hY h0
  have hnW := (hW.cell (p := ⟨Bn, 0, none⟩) hBn).trans hcn
  have hfW := (hW.cell (p := ⟨Bf, 0, none⟩) hBf).trans hcf
  obtain ⟨cs, hmk, hcs⟩ := make_ints n (by omega) W
  have HCS := Lib.hid hcs
  clear hcs
  refine callsIn_of_wp Try.func102 rfl trivial ?_ rfl
  simp only [Try.ntmps102, List.size_toArray, List.length_cons, List.length_nil, Nat.reduceAdd, Nat.reduceSub, Array.replicate_succ, Array.replicate_zero, List.push_toArray, List.append_toArray, List.nil_append, List.cons_append]
  have hJ0 := fun W' (hb : Below W.heap.size W W') (h : W.heap.size + 1 ≤ W'.heap.size) => h0 (W.heap.size + 1) W' hb (by omega) h
  gi_wp2
  gi_loopw [10] (fun i wr => ∃ k : Nat, k ≤ n ∧ i = .int .i64 k ∧ (∃ xs, xs.length = n ∧ Hid (xs.take k = sameRow k (-(f : Int))) ∧ Row wr W.heap.size xs) ∧ wr.cell? ⟨Bf, 0, none⟩ = some (.int .i64 f) ∧ Below W.heap.size W wr)
    (fun i _ => n - (intOf i).toNat)
  case atStart =>
    refine ⟨0, Nat.zero_le _, rfl, ⟨sameRow n 0, by simp [sameRow], by simp [Hid, sameRow], ?_⟩, ?_, bl_alloc (Below.refl _ _) _⟩
    · rw [HCS.out]; exact Bx.new W _ _
    · rw [World.cell?_alloc_lt _ _ _ (by have := hW.size; simp; omega)]; exact hfW
  case round =>
    obtain ⟨k, hk, rfl, ⟨xs, hxl, hxt, hrow⟩, hcf', hb⟩ := hrel
    clear hmk hnW hfW
    by_cases hlt : k < n
    · have hc := hrow.get (k := k) (by omega)
      have hfr := Bx.free hrow k
      have hset := hrow.set k (-(f : Int))
      have hfb : -2 ≤ -(f : Int) ∧ -(f : Int) ≤ 0 := by omega
      obtain ⟨hfb1, hfb2⟩ := hfb
      gi_wp2
      go_roundw
      case rel => exact ⟨k + 1, by omega, by go_num, ⟨_, by simpa using hxl, by
          show _ = _
          rw [List.take_succ_eq_append_getElem (by simp; omega)]
          have h1 := hxt.out
          simp only [List.getElem_set_self, sameRow, List.replicate_succ'] at h1 ⊢
          rw [List.take_set_of_le (Nat.le_refl _), h1], hset⟩, by
          rw [World.cell?_setCell_other _ _ _ _ (by intro e; injection e with e1; have := hW.size; omega)]; exact hcf', bl_set hb (Nat.le_refl _) _⟩
      case measure => simp [intOf]; omega
    · obtain rfl : k = n := by omega
      have hx0 : xs = pAt f k 0 := by
        have h := hxt.out
        rw [List.take_of_length_le (by omega)] at h
        rw [h, pAt_zero]; rfl
      rw [hx0] at hrow
      have HJ := hJ0 wr hb (by have := Bx.lt hrow; omega)
      have hs0 : W.heap.size + 1 ≤ wr.heap.size := by have := Bx.lt hrow; omega
      have hBfW : Bf < W.heap.size := Nat.lt_of_lt_of_le hBf hW.size
      clear hx0 hxt hxl hJ0 h0 hb HCS hcn hcf
      gi_wp2
      gi_loopg [] ((2 * f + 1) ^ k) (fun gk wr => ∃ j : Nat, gk + j = (2 * f + 1) ^ k ∧ j < (2 * f + 1) ^ k ∧ J (W.heap.size + 1) (pulsesTo f k j) wr ∧ Row wr W.heap.size (pAt f k j) ∧ wr.cell? ⟨Bf, 0, none⟩ = some (.int .i64 f) ∧ W.heap.size + 1 ≤ wr.heap.size)
      case atStart => exact ⟨0, rfl, Nat.pow_pos (by omega), HJ, hrow, hcf', hs0⟩
      case round =>
        clear HJ hrow hcf' hs0
        obtain ⟨j, hgk, hj, HJ, hrow, hcf, hs⟩ := hrel
        obtain ⟨fn, tmps, assign, body, hy, hR⟩ := hY _ _ (pAt f k j) #[.slice (some ⟨W.heap.size, 0, none⟩) k k] wr HJ hs (pulses_pre f k j hj) ⟨_, k, by rw [pAt_len], hrow.rd⟩
        rw [← pulsesTo_succ] at hR
        gi_wp2_with (fail)
        refine ⟨wide_n _, ?_⟩
        refine hR.mono ?_
        rintro en W3 ⟨hm3, ⟨rfl, hJ3⟩ | ⟨rfl, hJx3⟩⟩
        case inr =>
          gi_wp2
          go_end0
          exact ⟨⟨_, rfl⟩, W.heap.size + 1, Nat.le_trans hs hm3.size, .inr ⟨_, pulses_of f k (j + 1) (by omega), hJx3⟩⟩
        clear hy hR
        have hrow3 : Row W3 W.heap.size (pAt f k j) := Bx.mod hrow hm3 (fun h => h.2 ⟨Nat.le_refl _, by omega⟩)
        have hcf3 : W3.cell? ⟨Bf, 0, none⟩ = some (.int .i64 f) := (hm3.cell (p := ⟨Bf, 0, none⟩) (by show Bf < wr.heap.size; omega) (fun h => h.1 hKf)).trans hcf
        gi_wp2_with (fail)
        refine ⟨trivial, wide_n _, ?_⟩
        refine (callsIn_wide.2 (advance_c f k j W.heap.size hf hn hj W3 hrow3)).mono ?_
        rintro en W4 ⟨b, rfl, hm4, hb4⟩
        have hJ4 := hJ _ _ _ _ hJ3 (hm4.weak (T := zone W.heap.size (W.heap.size + 1)) (fun q hq => ⟨by omega, by omega⟩))
        have hs4 : W.heap.size + 1 ≤ W4.heap.size := Nat.le_trans (Nat.le_trans hs hm3.size) hm4.size
        have hcf4 : W4.cell? ⟨Bf, 0, none⟩ = some (.int .i64 f) := (hm4.cell (p := ⟨Bf, 0, none⟩) (by show Bf < W3.heap.size; have := hm3.size; omega) (fun h => by have h' : Bf = W.heap.size := h; omega)).trans hcf3
        rcases hb4 with ⟨rfl, hlt, hr4⟩ | ⟨rfl, hend, _⟩
        · gi_wp2_with (fail)
          gi_roundg (gk - 1)
          case measure => omega
          case rel => exact ⟨j + 1, by omega, hlt, hJ4, hr4, hcf4, hs4⟩
        · have HE := Lib.hid hend
          clear hend
          gi_wp2_with (fail)
          first | go_end0 | refine bodyPost_ret (results_none rfl _ _ _) rfl ?_
          exact ⟨⟨_, rfl⟩, W.heap.size + 1, hs4, .inl (by have h := hJ4; rw [HE.out] at h; exact h)⟩

theorem closedPulses_c (A : Option Addr) (len cap : Nat) (n f : Int) (w : World) :
    Calls Try.prog 80 #[.slice A len cap, .int .i64 n, .int .i64 f] w fun e w' => e = .returned (.func (.func 95) #[] #[.pointer (some ⟨w.heap.size + 1, 0, none⟩), .pointer (some ⟨w.heap.size + 2, 0, none⟩), .pointer (some ⟨w.heap.size, 0, none⟩)]) ∧
      ((w.alloc (.cells #[.slice A len cap] 22)).alloc (.cells #[.int .i64 n] 3)).alloc (.cells #[.int .i64 f] 3) = w' := by
  go_enter Try.func80, Try.ntmps80
  go_wp2
  go_ret
  exact ⟨rfl, rfl⟩

/-- The pulses of a search that are closed in all modes of a list. -/
def closedL (l : List Int) (f n : Nat) : List (List Int) := (pulsesL f n).filter (fun x => closedAllB x l)

theorem filter_pre {α : Type} (c : α → Bool) {xs pre t : List α} {x : α} (h : xs = pre ++ x :: t) (hx : c x = true) : xs.filter c = pre.filter c ++ x :: t.filter c := by
  rw [h, List.filter_append, List.filter_cons, if_pos hx]
theorem pulses_len {f n : Nat} {x : List Int} (h : x ∈ pulsesL f n) : x.length = n := by
  simp only [pulsesL, List.mem_map] at h
  obtain ⟨i, _, rfl⟩ := h
  exact pAt_len f n i

set_option maxRecDepth 100000 in
set_option maxHeartbeats 4000000 in
theorem closed_iter (w : World) (B : Option Addr) (l : List Int) (cap n f : Nat) (hn : n ≤ 6) (hf : f ≤ 2) (hl : l.length ≤ 9223372036854775806) (Bn Bf Bl : Nat) (K : Nat → Prop)
    (hBn : Bn < w.heap.size) (hBf : Bf < w.heap.size) (hBl : Bl < w.heap.size) (hcn : w.cell? ⟨Bn, 0, none⟩ = some (.int .i64 n)) (hcf : w.cell? ⟨Bf, 0, none⟩ = some (.int .i64 f)) (hcl : w.cell? ⟨Bl, 0, none⟩ = some (.slice B l.length cap)) (hr : Rd w B (ints l))
    (hKlt : ∀ k, K k → k < w.heap.size) (hKl : K Bl) (hKA : ∀ a, B = some a → ints l ≠ [] → K a.block) :
    Iter Try.prog 95 #[.pointer (some ⟨Bn, 0, none⟩), .pointer (some ⟨Bf, 0, none⟩), .pointer (some ⟨Bl, 0, none⟩)] EncL (closedL l f n) K w := by
  intro n' ly J Jx W hW hJ hJx hY h0
  have hnW := (hW.cell (p := ⟨Bn, 0, none⟩) hBn).trans hcn
  have hfW := (hW.cell (p := ⟨Bf, 0, none⟩) hBf).trans hcf
  have hlW := (hW.cell (p := ⟨Bl, 0, none⟩) hBl).trans hcl
  have hrW := hr.later hW
  replace hKlt : ∀ k, K k → k < W.heap.size := fun a h => Nat.lt_of_lt_of_le (hKlt _ h) hW.size
  have hBnW : Bn < W.heap.size := Nat.lt_of_lt_of_le hBn hW.size
  have hBfW : Bf < W.heap.size := Nat.lt_of_lt_of_le hBf hW.size
  have hBlW : Bl < W.heap.size := Nat.lt_of_lt_of_le hBl hW.size
  clear hcn hcf hcl hr hBn hBf hBl hW
  refine callsIn_of_wp_marks Try.func95 rfl trivial ?_ rfl
  simp only [Try.ntmps95, List.size_toArray, List.length_cons, List.length_nil, Nat.reduceAdd, Nat.reduceSub, Array.replicate_succ, Array.replicate_zero, List.push_toArray, List.append_toArray, List.nil_append, List.cons_append]
  gi_wp2_with (fail)
  refine ⟨trivial, wide_n _, ?_⟩
  refine (callsIn_wide.2 (pulses_c _ _ _)).mono ?_
  rintro en w1 ⟨rfl, hw1⟩
  simp only [World.size_alloc, Nat.add_assoc, Nat.reduceAdd] at *
  have hb1 : Below W.heap.size W w1 := by rw [← hw1]; exact bl_alloc (bl_alloc (bl_alloc (Below.refl _ _) _) _) _
  have hs1 : w1.heap.size = W.heap.size + 3 := by rw [← hw1]; simp
  have x0 : Bx w1 W.heap.size 23 #[.func (.yield ly) #[] #[]] := by rw [← hw1]; exact ((Bx.newAt rfl).alloc _).alloc _
  have x1 : Bx w1 (W.heap.size + 1) 3 #[.int .i64 n] := by rw [← hw1]; exact (Bx.newAt (by simp)).alloc _
  have x2 : Bx w1 (W.heap.size + 2) 3 #[.int .i64 f] := by rw [← hw1]; exact Bx.newAt (by simp)
  have hl1 : w1.cell? ⟨Bl, 0, none⟩ = some (.slice B l.length cap) := (hb1.cell (p := ⟨Bl, 0, none⟩) hBlW).trans hlW
  have hr1 := hrW.later hb1
  clear hw1 hnW hfW
  gi_wp2_with (fail)
  refine wp_range (n := n') (gf := 102) (lb := #[.pointer (some ⟨W.heap.size + 1, 0, none⟩), .pointer (some ⟨W.heap.size + 2, 0, none⟩)]) rfl (enters_of Try.func102 (by kernel_rfl) rfl)
    (pulses_iter w1 n f hn hf (W.heap.size + 1) (W.heap.size + 2) (fun k => K k ∨ (W.heap.size ≤ k ∧ k < W.heap.size + 3)) (by omega) (by omega) x1.one.1 x2.one.1 (.inr ⟨by omega, by omega⟩))
    (Below.refl _ _) (by rintro k (h | h); have := hKlt k h; omega; omega) (by rintro x vs W' ⟨A, c, rfl, _⟩; rfl)
    (fun e pre X => J e (pre.filter (fun x => closedAllB x l)) X ∧ Bx X W.heap.size 23 #[.func (.yield ly) #[] #[]] ∧ X.cell? ⟨Bl, 0, none⟩ = some (.slice B l.length cap) ∧ Rd X B (ints l))
    (fun e c pre X => c = .ret ∧ Jx e (pre.filter (fun x => closedAllB x l)) X) ?hI ?hIx ?h0
    (fun x a' X => ∃ A c, Rd X A (ints x) ∧ a' = { tmps := #[.func (.yield ly) #[] #[], .pointer (some ⟨Bn, 0, none⟩), .pointer (some ⟨Bf, 0, none⟩), .pointer (some ⟨Bl, 0, none⟩), .pointer (some ⟨W.heap.size, 0, none⟩), .slice A x.length c, .int .i64 n, .int .i64 f,
      .func (.func 102) #[] #[.pointer (some ⟨W.heap.size + 1, 0, none⟩), .pointer (some ⟨W.heap.size + 2, 0, none⟩)], .slice A x.length c, undef, undef, undef, undef, undef, undef, undef, undef, undef], defers := [] })
    ?hAx ?assign ?body ?done ?stop
  case hI =>
    rintro e s X Y ⟨hj, hx, hc, hrd⟩ hm
    refine ⟨hJ _ _ _ _ hj (hm.weak fun k h => ⟨by have := h.1; omega, h.2⟩), hx.mod hm (fun h => by have := h.1; omega), ?_, hrd.mod hm (fun a e1 h _ hz => by have := hKlt _ (hKA a e1 h); have := hz.1; omega)⟩
    exact (hm.cell (p := ⟨Bl, 0, none⟩) (World.block_lt_of_cell? X _ hc) (fun h => by have h1 : w1.heap.size ≤ Bl := h.1; omega)).trans hc
  case hIx =>
    rintro e c s X Y ⟨hc, hj⟩ hm
    exact ⟨hc, hJx _ _ _ _ hj (hm.weak fun k h => ⟨by have := h.1; omega, h.2⟩)⟩
  case h0 =>
    intro e X hb he hes
    exact ⟨h0 e X (bl_call hb1 hb) (by omega) hes, x0.call hb, (hb.cell (p := ⟨Bl, 0, none⟩) (by show Bl < w1.heap.size; omega)).trans hl1, hr1.later hb⟩
  case hAx =>
    rintro x a' X Y l' o ⟨A, c, hrd, rfl⟩ hl' ⟨r, hr'⟩ rfl
    exact ⟨A, c, hrd.put hr' o, rfl⟩
  case assign =>
    rintro l' e pre x vs X k he hes _ ⟨A, c, rfl, hrd⟩ hk
    gi_wp2
    exact hk _ _ (Mod.refl _ X) ⟨A, c, hrd, rfl⟩
  case body =>
    rintro l' e pre x a' X he hes ⟨t, hpre⟩ ⟨hj, hx, hc, hrd⟩ ⟨A, c, hrx, rfl⟩
    have hxl : x.length ≤ 6 := by rw [pulses_len (f := f) (n := n) (by rw [hpre]; simp)]; exact hn
    obtain ⟨hx1, hx2⟩ := hx.one
    have HC := Lib.hid (closedInAll_c A B x l c cap X (by omega) (by omega) hrx hrd)
    have HF : Hid (∀ b, closedAllB x l = b → (pre ++ [x]).filter (fun x => closedAllB x l) = pre.filter (fun x => closedAllB x l) ++ (if b then [x] else [])) := by
      rintro b rfl
      rw [List.filter_append]
      cases h : closedAllB x l <;> simp [h]
    have HP : Hid (closedAllB x l = true → ∃ t, closedL l f n = pre.filter (fun x => closedAllB x l) ++ x :: t) := fun h => ⟨_, filter_pre _ hpre h⟩
    generalize closedAllB x l = b at HC HF HP
    gi_wp2_with (fail)
    refine ⟨trivial, wide_n _, ?_⟩
    refine (CallsIn.inRound l' (callsIn_wide.2 HC.out)).mono ?_
    rintro en w4 ⟨rfl, hb4⟩
    have hj4 := hJ _ _ _ _ hj (Mod.of_call hb4)
    have hx4 := hx.call hb4
    have hc4 : w4.cell? ⟨Bl, 0, none⟩ = some (.slice B l.length cap) := (hb4.cell (p := ⟨Bl, 0, none⟩) (World.block_lt_of_cell? X _ hc)).trans hc
    have hrd4 := hrd.later hb4
    have hrx4 := hrx.later hb4
    have hes4 : e ≤ w4.heap.size := Nat.le_trans hes hb4.size
    clear hx1 hx2 hc HC
    obtain ⟨hx1, hx2⟩ := hx4.one
    cases b with
    | false =>
      gi_wp2_with (fail)
      refine ⟨fun _ h => (by cases h), ?_⟩
      gi_wp2_with (fail)
      exact ⟨Mod.of_call hb4, by rw [HF.out false rfl]; simpa using hj4, hx4, hc4, hrd4⟩
    | true =>
      obtain ⟨fn, tmps, assign, body, hy, hR⟩ := hY _ _ x #[.slice A x.length c] w4 hj4 hes4 (HP.out rfl) ⟨A, c, rfl, hrx4⟩
      have hR' := round_any (m := n' - 1 - 1 - 1) (l' := l') hR
      gi_wp2_with (fail)
      refine ⟨wide_n _, ?_⟩
      refine hR'.mono ?_
      rintro en w5 ⟨hm5, h5⟩
      have hm5' : Mod (fun k => ¬ (K k ∨ (W.heap.size ≤ k ∧ k < W.heap.size + 3)) ∧ ¬ zone w1.heap.size e k) X w5 :=
        (Mod.of_call hb4).trans (hm5.weak fun k h => ⟨fun h' => by
          rcases h' with h' | h'
          · exact h.1 h'
          · exact h.2 ⟨h'.1, by omega⟩, fun hz => h.2 ⟨by have := hz.1; omega, hz.2⟩⟩)
      clear hy hR hR'
      rcases h5 with ⟨rfl, hj5⟩ | ⟨rfl, hj5⟩
      · gi_wp2_with (fail)
        exact ⟨hm5', by rw [HF.out true rfl]; exact hj5, hx4.mod hm5 (fun h => h.2 ⟨Nat.le_refl _, by omega⟩), (hm5.cell (p := ⟨Bl, 0, none⟩) (World.block_lt_of_cell? w4 _ hc4) (fun h => h.1 hKl)).trans hc4, hrd4.mod hm5 (fun a e1 h _ hz => hz.1 (hKA a e1 h))⟩
      · gi_wp2_with (fail)
        exact ⟨hm5', rfl, by rw [HF.out true rfl]; exact hj5⟩
  case stop =>
    rintro D e c pre X hD hDe hes ⟨t, hpre⟩ ⟨rfl, hj⟩ hK
    gi_wp2
    refine ⟨by simp, .inl ⟨_, _, rfl, run_takeDeferred hK, ?_⟩⟩
    refine ⟨_, results_none rfl _ _ _, ⟨_, rfl⟩, e, by rw [World.putObj_size]; exact hes, .inr ⟨_, ⟨_, by rw [closedL, hpre, List.filter_append]⟩, hJx _ _ _ _ hj ((Mod.refl _ _).putObj (.inr ⟨by omega, hDe⟩) _)⟩⟩
  case done =>
    rintro D e X hD hDe hes ⟨hj, _⟩ hK
    gi_wp2
    refine ⟨by simp, .inl ⟨_, _, rfl, run_takeDeferred hK, ?_⟩⟩
    refine ⟨_, results_none rfl _ _ _, ⟨_, rfl⟩, e, by rw [World.putObj_size]; exact hes, .inl (hJ _ _ _ _ hj ((Mod.refl _ _).putObj (.inr ⟨by omega, hDe⟩) _))⟩
end Go.Proofs.Ytpjdojjdhbmbjaa
