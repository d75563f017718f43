/- Courses in memory; the jump to voltages behind one; a copy of a row of slices: package volt's contracts. -/
import Derived.Test.YtmmjdabioolodaaChv
namespace Go.Proofs.Ytmmjdabioolodaa
open Go.RowKit

def crsD : Crs := ([], 0)
/-- The cells of a list of courses, whose lists of steps begin where V says. -/
def cellsC (V : Rows) (cs : List Crs) : List Value := (List.range cs.length).flatMap fun i => [.slice (V i).1 (cs.getD i crsD).1.length (V i).2, .int .i64 (cs.getD i crsD).2]
theorem flat2_get {f : Nat → List Value} (hf : ∀ i, (f i).length = 2) : ∀ (n i : Nat), i < n → ((List.range n).flatMap f)[i * 2]? = (f i)[0]? ∧ ((List.range n).flatMap f)[i * 2 + 1]? = (f i)[1]? := by
  have hlen : ∀ n, ((List.range n).flatMap f).length = n * 2 := fun n => by
    induction n with
    | zero => rfl
    | succ n ih => rw [List.range_succ, List.flatMap_append, List.length_append, ih]; simp [hf]; omega
  intro n
  induction n with
  | zero => intro i hi; omega
  | succ n ih =>
    intro i hi
    rw [List.range_succ, List.flatMap_append]
    rcases Nat.lt_or_ge i n with h | h
    · obtain ⟨h1, h2⟩ := ih i h
      rw [List.getElem?_append_left (by rw [hlen]; omega), List.getElem?_append_left (by rw [hlen]; omega)]
      exact ⟨h1, h2⟩
    · obtain rfl : i = n := by omega
      rw [List.getElem?_append_right (by rw [hlen]; omega), List.getElem?_append_right (by rw [hlen]; omega), hlen]
      simp only [List.flatMap_singleton, Nat.sub_self, show i * 2 + 1 - i * 2 = 1 by omega]
      exact ⟨trivial, trivial⟩
theorem cellsC_get {V : Rows} {cs : List Crs} {i : Nat} (h : i < cs.length) : (cellsC V cs)[i * 2]? = some (.slice (V i).1 (cs.getD i crsD).1.length (V i).2) ∧ (cellsC V cs)[i * 2 + 1]? = some (.int .i64 (cs.getD i crsD).2) := by
  obtain ⟨h1, h2⟩ := flat2_get (f := fun i => [Value.slice (V i).1 (cs.getD i crsD).1.length (V i).2, .int .i64 (cs.getD i crsD).2]) (fun _ => rfl) cs.length i h
  exact ⟨h1, h2⟩
theorem cellsC_len (V : Rows) (cs : List Crs) : (cellsC V cs).length = cs.length * 2 := by
  unfold cellsC
  generalize cs.length = n
  induction n with
  | zero => rfl
  | succ n ih => rw [List.range_succ, List.flatMap_append, List.length_append, ih]; simp; omega
theorem cellsC_one (V : Rows) (cs : List Crs) : ∀ u ∈ cellsC V cs, u.oneCell' = true := by
  intro u hu
  simp only [cellsC, List.mem_flatMap, List.mem_cons, List.not_mem_nil, or_false] at hu
  obtain ⟨_, _, rfl | rfl⟩ := hu <;> rfl
/-- At A lies a list of courses. -/
structure CT (w : World) (A : Option Addr) (V : Rows) (S : Nat → Rows) (cs : List Crs) : Prop where
  top : Rd w A (cellsC V cs)
  row : ∀ i, i < cs.length → RT w (V i).1 (S i) (cs.getD i crsD).1
theorem CT.later {w w' : World} {A : Option Addr} {V : Rows} {S : Nat → Rows} {cs : List Crs} (h : CT w A V S cs) (hb : Below w.heap.size w w') : CT w' A V S cs := ⟨h.top.later hb, fun i hi => (h.row i hi).later hb⟩
theorem CT.all_ {w : World} {A : Option Addr} {V : Rows} {S : Nat → Rows} {cs : List Crs} (h : CT w A V S cs) (hl : 0 < cs.length) : ∃ b o, A = some ⟨b, o, none⟩ ∧ b < w.heap.size ∧ ∀ w1, Below w.heap.size w w1 → ∀ i, i < cs.length →
    w1.cell? ⟨b, o + i * 2, none⟩ = some (.slice (V i).1 (cs.getD i crsD).1.length (V i).2) ∧ w1.cell? ⟨b, o + i * 2 + 1, none⟩ = some (.int .i64 (cs.getD i crsD).2) := by
  obtain ⟨b, o, rfl, hb, hc⟩ := h.top.at_ (k := 0) (by rw [cellsC_len]; omega)
  refine ⟨b, o, rfl, hb, fun w1 hw i hi => ?_⟩
  obtain ⟨h1, h2⟩ := cellsC_get (V := V) hi
  exact ⟨(hw.cell (p := ⟨b, o + i * 2, none⟩) hb).trans (hc _ _ h1), (hw.cell (p := ⟨b, o + i * 2 + 1, none⟩) hb).trans (by rw [Nat.add_assoc]; exact hc _ _ h2)⟩
/-- A course of at most five voltages of n electrodes. -/
structure CrsOk (n : Nat) (c : Crs) : Prop where
  len : c.1.length ≤ 5
  row : ∀ k, k < c.1.length → OkV (c.1.getD k []) n 3
  jump : 0 ≤ c.2 ∧ c.2 ≤ 6
theorem jumpTo'_range {n : Nat} {c : Crs} {v : List Int} (h : CrsOk n c) (hv : OkV v n 3) : 0 ≤ jumpTo' c v ∧ jumpTo' c v ≤ 6 := by
  unfold jumpTo'
  have hj := h.jump
  split
  · omega
  · rename_i h0
    have h1 := jumpL_pos (c.1.getD (c.1.length - 1) []) v
    have h2 := jumpL_bound (by decide) (h.row (c.1.length - 1) (by omega)) hv
    omega
set_option maxRecDepth 100000 in
set_option maxHeartbeats 2000000 in
theorem jumpTo_c (A B : Option Addr) (S : Rows) (c : Crs) (n : Nat) (v : List Int) (cap cap' : Nat) (w : World) (hn : n ≤ 3) (hc : CrsOk n c) (hv : OkV v n 3) (hr : RT w A S c.1) (hs : Rd w B (ints v)) :
    Calls Try.prog 98 #[.agg #[.slice A c.1.length cap, .int .i64 c.2], .slice B v.length cap'] w fun e w' => e = .returned (.int .i64 (jumpTo' c v)) ∧ Below w.heap.size w w' := by
  have hbx : Bx (w.alloc (.cells #[.slice A c.1.length cap, .int .i64 c.2] 92)) w.heap.size 92 #[.slice A c.1.length cap, .int .i64 c.2] := Bx.new w _ _
  have hb0 := bl_alloc (Below.refl w.heap.size w) (.cells #[.slice A c.1.length cap, .int .i64 c.2] 92)
  obtain ⟨y0, y1, z0, z1⟩ := hbx.two
  by_cases h0 : c.1.length = 0
  · have hE : jumpTo' c v = 0 := by unfold jumpTo'; rw [if_pos h0]
    rw [hE]
    have h0' : ((c.1.length : Int) == 0) = true := by simp; exact List.length_eq_zero_iff.1 h0
    clear h0 hE
    go_enter Try.func98, Try.ntmps98
    go_wp2_with (fail)
    go_ret
    exact ⟨rfl, hb0⟩
  · have HE : Hid (jumpTo' c v = max c.2 (jumpL (c.1.getD (c.1.length - 1) []) v)) := by show _ = _; unfold jumpTo'; rw [if_neg h0]
    have hlen := hc.len
    have hok := hc.row (c.1.length - 1) (by omega)
    obtain ⟨b, o, rfl, hbl, HC⟩ := hr.all_ (by omega)
    have hrow := hr.row (c.1.length - 1) (by omega)
    have HJ := fun w1 (hb : Below w.heap.size w w1) => Lib.hid (jumpOf_c (S (c.1.length - 1)).1 B (c.1.getD (c.1.length - 1) []) v (S (c.1.length - 1)).2 cap' w1 (by rw [hok.len, hv.len]) (by have := hok.len; omega) (fun k => ⟨small_get hok (by decide) k, small_get hv (by decide) k⟩) (hrow.later hb) (hs.later hb))
    have HCC : Hid (∀ w1, Below w.heap.size w w1 → w1.cell? ⟨b, o + (c.1.length - 1), none⟩ = some (.slice (S (c.1.length - 1)).1 (c.1.getD (c.1.length - 1) []).length (S (c.1.length - 1)).2)) := fun w1 hw => HC w1 hw _ (by omega)
    have e1 : (c.1.length : Int) - 1 = ((c.1.length - 1 : Nat) : Int) := by omega
    have hpos : (0 : Int) < (c.1.length : Int) := by omega
    have hposn : 0 < c.1.length := by omega
    have hne : ¬ c.1 = [] := by intro h; rw [h] at hposn; simp at hposn
    have hlt : ((c.1.length - 1 : Nat) : Int) < (c.1.length : Int) := by omega
    clear HC hrow hok hr
    generalize jumpL (c.1.getD (c.1.length - 1) []) v = j at *
    generalize c.1.getD (c.1.length - 1) [] = x at *
    generalize hm : c.1.length - 1 = m at *
    have q1 : IntKind.i64.wrap ((c.1.length : Int) - 1) = (m : Int) := by rw [e1, IntWalk.i64_left]; exact IntWalk.wrap64_in _ ⟨by omega, by omega⟩
    have q2 : wrap64 ((c.1.length : Int) - 1) = (m : Int) := by rw [e1]; exact IntWalk.wrap64_in _ ⟨by omega, by omega⟩
    have hq : ((c.1.length : Int) == 0) = false := by simp; exact hne
    obtain ⟨w0, hw0⟩ : ∃ w0, w0 = w.alloc (.cells #[.slice (some ⟨b, o, none⟩) c.1.length cap, .int .i64 c.2] 92) := ⟨_, rfl⟩
    have HBX : Hid (∀ w1, Below w0.heap.size w0 w1 → (w1.cell? ⟨w.heap.size, 0, none⟩ = some (.slice (some ⟨b, o, none⟩) c.1.length cap) ∧ w1.cell? ⟨w.heap.size, 1, none⟩ = some (.int .i64 c.2)) ∧ Below w.heap.size w w1) := fun w1 hw => by
      rw [← hw0] at hbx hb0
      obtain ⟨a1, a2, _, _⟩ := (hbx.call hw).two
      exact ⟨⟨a1, a2⟩, bl_call hb0 hw⟩
    have hdr : Below w0.heap.size w0 w0.drew := (Below.refl _ _).drew
    have hw0s : w0.heap.size = w.heap.size + 1 := by rw [hw0]; simp
    clear hm e1 h0
    go_enter Try.func98, Try.ntmps98
    go_wp2_with (fail)
    rw [← hw0]
    clear y0 y1 z0 z1 hbx hb0
    obtain ⟨⟨a1, a2⟩, a3⟩ := HBX.out w0.drew hdr
    have a4 := HCC.out w0.drew a3
    have HJD := HJ w0.drew a3
    clear HJ hw0
    go_region_law (go_simp; refine HJD.out.mono ?_; rintro e w1 ⟨rfl, hb1⟩; obtain ⟨⟨b1, b2⟩, b3⟩ := HBX.out w1 (bl_call hdr hb1); try go_simp)
    all_goals go_wp2_with (fail)
    all_goals
      go_ret
      exact ⟨ret_i (by rw [HE.out]; omega), b3⟩
set_option maxRecDepth 100000 in
theorem cloneT_c (A : Option Addr) (n : Nat) (hs : List Value) (cap : Nat) (w : World) (hl : hs.length = n) (hn : n ≤ 1000) (hone : ∀ u ∈ hs, u.oneCell' = true) (hr : Rd w A hs) :
    Calls Try.prog 99 #[.slice A n cap] w fun e w' => ∃ A' c', e = .returned (.slice A' n c') ∧ w'.ownsRow w.heap.size 23 1 (.slice A' n c') n hs ∧ Below w.heap.size w w' := by
  obtain ⟨i0, hi, hz0, hz1, hz2⟩ := info_parts slice_info
  have qT : ∀ (w : World) (a : Option Addr) (n c n' c' : Nat), (binOp .eql 22 (.slice a n c) (.slice none n' c')).run Try.prog w = .ok (.bool a.isNone) w := fun w a n c n' c' => Lib.run_eql_slice_nil w _ _ a n c n' c' Try.underlying22
  cases A with
  | none =>
    have h0 : hs = [] := by
      rcases hr with h | ⟨_, _, h, _⟩
      · exact h
      · cases h
    subst h0
    obtain rfl : n = 0 := hl.symm
    go_enter Try.func99, Try.ntmps99
    go_wp2_with (fail)
    go_ret
    exact ⟨none, 0, rfl, World.ownsRow_nil _ _ _ _, Below.refl _ _⟩
  | some ad =>
    have hown := World.ownsRow_made (e := 23) (size := 1) w #[] 0 (Nat.le_refl _) (by decide) rfl
    have hb0 : Below w.heap.size w (w.alloc (.cells #[] 23)) := bl_alloc (Below.refl _ _) _
    obtain ⟨A', c', w2, hrun, hown2, hg2⟩ := run_append_rows (P := Try.prog) (w.alloc (.cells #[] 23)) w.heap.size 22 23 i0 _ 1 24 Try.underlying22 hi hz0 hz1 hz2 rfl (by decide) _ 0 [] hown (some ad) n cap hs (by omega) hone (hr.later hb0) (by unfold maxLen; omega) (by omega) hb0.size
    have E1 := Lib.hid hrun
    clear hrun
    have hb2 : Below w.heap.size w w2 := hb0.trans (grown_below hown hg2 hb0.size)
    have hown3 : w2.ownsRow w.heap.size 23 1 (.slice A' n c') n hs := by simpa using hown2
    clear hown hg2 hown2
    go_enter Try.func99, Try.ntmps99
    go_wp2_with (at_builtin; refine wpList_append_eq rfl _ _ 22 rfl _ _ _ w2 rfl rfl E1.out ?_)
    go_ret
    exact ⟨A', c', by simp, hown3, hb2⟩
end Go.Proofs.Ytmmjdabioolodaa
