/- Before the walk of 'TopBudgets': its example, long and invalid budgets, and what the calls answer. -/
import Derived.Test.YtgbjglkiaoplmaaTopBM
namespace Go.Proofs.Ytgbjglkiaoplmaa
open Go.RowKit

def exB : List It := [⟨2, 1, 10⟩, ⟨1, 1, 4⟩]
theorem exB_val : valE exB = 0 := by
  simp [valE, exB, allIt, itB, rateB, it0]
theorem exB_wst : wstL exB = [1] := by
  have h0 : shK exB 0 = 504 := by simp [shK, exB, shareP, part]
  have h1 : shK exB 1 = 630 := by simp [shK, exB, shareP, part]
  have t0 : topB exB 0 = false := by
    unfold topB
    rw [decide_eq_false_iff_not]
    intro h
    have := h 1 (by simp [exB])
    rw [h0, h1] at this
    exact this (by decide)
  have t1 : topB exB 1 = true := by
    unfold topB
    rw [decide_eq_true_eq]
    intro j hj
    have hj' : j < 2 := hj
    rcases (by omega : j = 0 ∨ j = 1) with rfl | rfl
    · rw [h0, h1]; decide
    · rw [h1]; decide
  unfold wstL
  rw [if_pos exB_val]
  show wstTo exB 2 = [1]
  rw [wstTo, wstTo, wstTo, t0, t1]
  rfl
theorem exB_c (g : Nat) (w : World) (hr : Rd w (some ⟨g, 0, none⟩) (cellsI exB)) : Calls Try.prog 33 #[.slice (some ⟨g, 0, none⟩) 2 2] w fun e w' => ∃ A c, e = .returned (.tuple #[.slice A 1 c, .int .i64 0]) ∧ Rd w' A (ints [1]) ∧ Below w.heap.size w w' := by
  have h := Worst_c (some ⟨g, 0, none⟩) exB 2 w (by decide) hr
  rw [exB_val, exB_wst] at h
  exact h
set_option maxRecDepth 100000 in
set_option maxHeartbeats 4000000 in
theorem topB_long (A : Option Addr) (l : List It) (cap : Nat) (B : Option Addr) (fs : List Fx) (cap2 : Nat) (m e : Int) (w : World) (hL : 50 < l.length ∨ 50 < fs.length) (_hr : Rd w A (cellsI l)) (_hs : Rd w B (cellsF fs)) :
    Calls Try.prog 17 #[.slice A l.length cap, .slice B fs.length cap2, .agg #[.int .i64 m, .int .i64 e]] w fun e w' => e = .returned (.bool true) ∧ Below w.heap.size w w' := by
  have hb0 := bl_alloc (Below.refl w.heap.size w) (.cells #[.int .i64 m, .int .i64 e] 30)
  have y0 : Bx (w.alloc (.cells #[.int .i64 m, .int .i64 e] 30)) w.heap.size 30 #[.int .i64 m, .int .i64 e] := Bx.new w _ _
  have hb00 := bl_alloc (Below.refl (w.alloc (.cells #[.int .i64 m, .int .i64 e] 30)).heap.size (w.alloc (.cells #[.int .i64 m, .int .i64 e] 30))) (.cells #[.int .i64 2, .int .i64 1, .int .i64 10, .int .i64 1, .int .i64 1, .int .i64 4] 50)
  have hbI := bl_call hb0 hb00
  have yI := y0.call hb00
  have rI : Rd ((w.alloc (.cells #[.int .i64 m, .int .i64 e] 30)).alloc (.cells #[.int .i64 2, .int .i64 1, .int .i64 10, .int .i64 1, .int .i64 1, .int .i64 4] 50)) (some ⟨(w.alloc (.cells #[.int .i64 m, .int .i64 e] 30)).heap.size, 0, none⟩) (cellsI exB) := Bx.rd (Bx.new _ _ _)
  rw [World.size_alloc] at rI
  have HWst := fun W hr => Lib.hid (exB_c (w.heap.size + 1) W hr)
  generalize exB = ex at *
  clear hb0 hb00 y0
  by_cases hL1 : 50 < l.length
  · have hd : decide (50 < l.length) = true := decide_eq_true hL1
    go_enter Try.func17, Try.ntmps17
    obtain ⟨fx0, fx1, _, _⟩ := yI.two
    go_wp2_with (fail)
    refine ((HWst _ rI).out).mono ?_
    rintro e w1 ⟨A1, c1, rfl, hr1, hb1⟩
    have hk1 := bl_call hbI hb1
    have xx1 := yI.call hb1
    clear fx0 fx1 hbI yI
    obtain ⟨fx0, fx1, _, _⟩ := xx1.two
    obtain ⟨b1, o1, rfl, _, z0⟩ := hr1.one (k := 0) (by decide)
    replace z0 : w1.cell? ⟨b1, o1, none⟩ = some (.int .i64 1) := z0
    go_wp2_with (fail)
    refine (Long_c _ _ _ _).mono ?_
    rintro e q2 ⟨rfl, rfl⟩
    rw [hd]
    go_wp2_with (fail)
    go_ret
    exact ⟨rfl, hk1⟩
  · have hd : decide (50 < l.length) = false := decide_eq_false hL1
    have hL3 : (50 : Int) < (fs.length : Int) := by omega
    go_enter Try.func17, Try.ntmps17
    obtain ⟨fx0, fx1, _, _⟩ := yI.two
    go_wp2_with (fail)
    refine ((HWst _ rI).out).mono ?_
    rintro e w1 ⟨A1, c1, rfl, hr1, hb1⟩
    have hk1 := bl_call hbI hb1
    have xx1 := yI.call hb1
    clear fx0 fx1 hbI yI
    obtain ⟨fx0, fx1, _, _⟩ := xx1.two
    obtain ⟨b1, o1, rfl, _, z0⟩ := hr1.one (k := 0) (by decide)
    replace z0 : w1.cell? ⟨b1, o1, none⟩ = some (.int .i64 1) := z0
    go_wp2_with (fail)
    refine (Long_c _ _ _ _).mono ?_
    rintro e q2 ⟨rfl, rfl⟩
    rw [hd]
    go_wp2_with (fail)
    go_ret
    exact ⟨rfl, hk1⟩
set_option maxRecDepth 100000 in
set_option maxHeartbeats 4000000 in
theorem topB_bad (A : Option Addr) (l : List It) (cap : Nat) (B : Option Addr) (fs : List Fx) (cap2 : Nat) (m e : Int) (w : World) (hL : ¬ 50 < l.length) (hL2 : ¬ 50 < fs.length) (hv : valE l ≠ 0) (hr : Rd w A (cellsI l)) (_hs : Rd w B (cellsF fs)) :
    Calls Try.prog 17 #[.slice A l.length cap, .slice B fs.length cap2, .agg #[.int .i64 m, .int .i64 e]] w fun e w' => e = .returned (.bool true) ∧ Below w.heap.size w w' := by
  have hb0 := bl_alloc (Below.refl w.heap.size w) (.cells #[.int .i64 m, .int .i64 e] 30)
  have y0 : Bx (w.alloc (.cells #[.int .i64 m, .int .i64 e] 30)) w.heap.size 30 #[.int .i64 m, .int .i64 e] := Bx.new w _ _
  have hb00 := bl_alloc (Below.refl (w.alloc (.cells #[.int .i64 m, .int .i64 e] 30)).heap.size (w.alloc (.cells #[.int .i64 m, .int .i64 e] 30))) (.cells #[.int .i64 2, .int .i64 1, .int .i64 10, .int .i64 1, .int .i64 1, .int .i64 4] 50)
  have hbI := bl_call hb0 hb00
  have yI := y0.call hb00
  have rI : Rd ((w.alloc (.cells #[.int .i64 m, .int .i64 e] 30)).alloc (.cells #[.int .i64 2, .int .i64 1, .int .i64 10, .int .i64 1, .int .i64 1, .int .i64 4] 50)) (some ⟨(w.alloc (.cells #[.int .i64 m, .int .i64 e] 30)).heap.size, 0, none⟩) (cellsI exB) := Bx.rd (Bx.new _ _ _)
  rw [World.size_alloc] at rI
  have HWst := fun W hr => Lib.hid (exB_c (w.heap.size + 1) W hr)
  generalize exB = ex at *
  clear hb0 hb00 y0
  have hd : decide (50 < l.length) = false := decide_eq_false hL
  have hL3 : ¬ (50 : Int) < (fs.length : Int) := by omega
  have HT := fun W hr => Lib.hid (Total_c A l cap W (by omega) hr)
  have HV := fun W hr => Lib.hid (Validate_c A l cap W (by omega) hr)
  generalize valE l = z at *
  generalize totG l = t at *
  go_enter Try.func17, Try.ntmps17
  obtain ⟨fx0, fx1, _, _⟩ := yI.two
  go_wp2_with (fail)
  refine ((HWst _ rI).out).mono ?_
  rintro e w1 ⟨A1, c1, rfl, hr1, hb1⟩
  have hk1 := bl_call hbI hb1
  have xx1 := yI.call hb1
  clear fx0 fx1 hbI yI
  obtain ⟨fx0, fx1, _, _⟩ := xx1.two
  obtain ⟨b1, o1, rfl, _, z0⟩ := hr1.one (k := 0) (by decide)
  replace z0 : w1.cell? ⟨b1, o1, none⟩ = some (.int .i64 1) := z0
  go_wp2_with (fail)
  refine (Long_c _ _ _ _).mono ?_
  rintro e q2 ⟨rfl, rfl⟩
  rw [hd]
  go_wp2_with (fail)
  refine ((HT _ (hr.later hk1)).out).mono ?_
  rintro e w3 ⟨rfl, hb3⟩
  have hk3 := bl_call hk1 hb3
  have xx3 := xx1.call hb3
  clear fx0 fx1 hk1 xx1
  obtain ⟨fx0, fx1, _, _⟩ := xx3.two
  have hn4 := bl_alloc (Below.refl w3.heap.size w3) (.cells #[.int .i64 t.1, .int .i64 t.2] 30)
  have y4 : Bx (w3.alloc (.cells #[.int .i64 t.1, .int .i64 t.2] 30)) w3.heap.size 30 #[.int .i64 t.1, .int .i64 t.2] := Bx.new w3 _ _
  have hk4 := bl_call hk3 hn4
  have xx4 := xx3.call hn4
  clear fx0 fx1 hk3 xx3
  clear hn4
  obtain ⟨fx0, fx1, _, _⟩ := xx4.two
  obtain ⟨ft0, ft1, _, _⟩ := y4.two
  go_wp2_with (fail)
  refine ((HV _ (hr.later hk4)).out).mono ?_
  rintro e w5 ⟨rfl, hb5⟩
  have hk5 := bl_call hk4 hb5
  have xx5 := xx4.call hb5
  have xt5 := y4.call hb5
  clear fx0 fx1 ft0 ft1 hk4 xx4 y4
  obtain ⟨fx0, fx1, _, _⟩ := xx5.two
  obtain ⟨ft0, ft1, _, _⟩ := xt5.two
  go_wp2_with (fail)
  go_ret
  exact ⟨rfl, hk5⟩
theorem topSh_c (A : Option Addr) (l : List It) (cap : Nat) (w : World) (hv : valE l = 0) (hr : Rd w A (cellsI l)) :
    Calls Try.prog 20 #[.slice A l.length cap] w fun e w' => ∃ A' c', e = .returned (.tuple #[.slice A' l.length c', .int .i64 0]) ∧ Rd w' A' (cellsR (shrF l)) ∧ Below w.heap.size w w' := by
  have h := Shares_c A l cap w (by have := (valE_ok hv).1; omega) hr
  have hE : shrL l = shrF l := by unfold shrL; rw [if_pos hv]
  unfold OutR at h
  rw [hE, hv, shrF_len] at h
  exact h
theorem topAl_c (A : Option Addr) (l : List It) (cap : Nat) (D : Option Addr) (d : Nat) (w : World) (hv : valE l = 0) (hr : Rd w A (cellsI l)) (hs : Rd w D (ints (PL l))) :
    Calls Try.prog 51 #[.slice A l.length cap, .agg #[.int .i64 (partsL l), .int .i64 2520], .slice D l.length d] w fun e w' => e = .returned (.int .i64 0) ∧ Below w.heap.size w w' := by
  have hl := (valE_ok hv).1
  have h := Allow_c A l cap (partsL l) 2520 D (PL l) d w (by omega) (by rw [PL_len]; omega) hr hs
  rw [top_allow hv, PL_len] at h
  exact h
theorem topAk_c (A : Option Addr) (l : List It) (cap : Nat) (D : Option Addr) (d : Nat) (w : World) (hv : valE l = 0) (k : Nat) (hk : k < l.length) (hp : 0 < shareP (l.getD k it0)) (hr : Rd w A (cellsI l)) (hs : Rd w D (ints ((PL l).set k (shareP (l.getD k it0) - 1)))) :
    Calls Try.prog 51 #[.slice A l.length cap, .agg #[.int .i64 (partsL l), .int .i64 2520], .slice D l.length d] w fun e w' => e = .returned (.int .i64 8) ∧ Below w.heap.size w w' := by
  have hl := (valE_ok hv).1
  have h := Allow_c A l cap (partsL l) 2520 D ((PL l).set k (shareP (l.getD k it0) - 1)) d w (by omega) (by rw [List.length_set, PL_len]; omega) hr hs
  rw [top_less hv hk hp, List.length_set, PL_len] at h
  exact h
theorem topRm_c (A : Option Addr) (l : List It) (cap : Nat) (w : World) (hv : valE l = 0) (k : Nat) (hk : k < l.length) (hp : 0 < shareP (l.getD k it0)) (hr : Rd w A (cellsI l)) :
    Calls Try.prog 49 #[.slice A l.length cap, .agg #[.int .i64 (partsL l), .int .i64 2520], .int .i64 k] w fun e w' => e = .returned (.tuple #[.int .i64 0, .int .i64 0]) ∧ Below w.heap.size w w' := by
  have hl := (valE_ok hv).1
  obtain ⟨h1, h2⟩ := top_room hv hk hp
  refine (Room_c A l cap (partsL l) 2520 k w (by omega) hr).mono fun f w' h => ?_
  obtain ⟨⟨r, hf, _, h3⟩, hb⟩ := h
  obtain ⟨n, i, hi, hn, hro⟩ := h3 h1
  have h0 := h2 n i hi hro
  subst h0
  rw [hf, hn, h1]
  exact ⟨rfl, hb⟩
theorem topWi_c (A : Option Addr) (l : List It) (cap : Nat) (B : Option Addr) (fs : List Fx) (cap2 : Nat) (m e : Int) (C : Option Addr) (c3 : Nat) (w : World) (hlen : l.length ≤ 50) (hlen2 : fs.length ≤ 50) (hB : chB l fs m e = true) (hr : Rd w A (cellsI l)) (hs : Rd w B (cellsF fs)) (hc : Rd w C (ints (chC l fs m e))) :
    Calls Try.prog 36 #[.slice A l.length cap, .slice B fs.length cap2, .slice C (chC l fs m e).length c3] w fun f w' => ∃ A' c', f = .returned (.tuple #[.slice A' (wtL l fs (chC l fs m e)).length c', .int .i64 (chK l fs m e), .int .i64 0]) ∧ Rd w' A' (cellsI (wtL l fs (chC l fs m e))) ∧ Below w.heap.size w w' := by
  have h8 := chC_len l fs m e
  obtain ⟨⟨h1, h2⟩, _⟩ := top_yes hB
  refine (With_c A l cap B fs cap2 C (chC l fs m e) c3 w (by omega) (by omega) (by omega) hr hs hc).mono fun f w' h => ?_
  obtain ⟨A', c', hf, ho, hb⟩ := h
  rw [h1, h2] at hf
  exact ⟨A', c', hf, (own_rd ho).1, hb⟩
theorem topCk_c (A : Option Addr) (l : List It) (cap : Nat) (B : Option Addr) (fs : List Fx) (cap2 : Nat) (m e : Int) (C : Option Addr) (c3 : Nat) (w : World) (hlen : l.length ≤ 50) (hlen2 : fs.length ≤ 50) (hB : chB l fs m e = true) (hr : Rd w A (cellsI l)) (hs : Rd w B (cellsF fs)) (hc : Rd w C (ints (chC l fs m e))) :
    Calls Try.prog 45 #[.slice A l.length cap, .slice B fs.length cap2, .agg #[.int .i64 m, .int .i64 e], .slice C (chC l fs m e).length c3] w fun f w' => f = .returned (.tuple #[.int .i64 (chK l fs m e), .int .i64 0]) ∧ Below w.heap.size w w' := by
  have h8 := chC_len l fs m e
  obtain ⟨_, h1, h2⟩ := cheap_facts hB
  have h := CheckChoice_c A l cap B fs cap2 m e C (chC l fs m e) c3 w (by omega) (by omega) (by omega) hr hs hc
  rw [h1, h2] at h
  exact h
theorem topCf_c (D : Option Addr) (l : List It) (d : Nat) (fs : List Fx) (m e : Int) (w : World) (hlen : l.length ≤ 50) (hB : chB l fs m e = true) (hr : Rd w D (cellsI (wtL l fs (chC l fs m e)))) :
    Calls Try.prog 31 #[.slice D (wtL l fs (chC l fs m e)).length d, .agg #[.int .i64 m, .int .i64 e]] w fun f w' => f = .returned (.tuple #[.bool true, .int .i64 0]) ∧ Below w.heap.size w w' := by
  obtain ⟨_, ⟨h1, h2⟩, _⟩ := top_yes hB
  have h := Closes_c D (wtL l fs (chC l fs m e)) d m e w (by have := wtL_len l fs (chC l fs m e); omega) hr
  rw [h1, h2] at h
  exact h
theorem append_numsT (base : Nat) (w : World) (v : Value) (l : List Int) (B : Option Addr) (m : List Int) (c : Nat) (hown : w.ownsRow base 3 1 v l.length (ints l)) (hr : Rd w B (ints m)) (hlen : l.length ≤ 100000) (hlen2 : m.length ≤ 100000) (hb : base ≤ w.heap.size) :
    ∃ A' c' w', (∀ ty, (Builtin.append_ #[40, 40] ty #[v, .slice B m.length c]).run Try.prog w = .ok (.slice A' (l.length + m.length) c') w') ∧
      w'.ownsRow base 3 1 (.slice A' (l.length + m.length) c') (l.length + m.length) (ints (l ++ m)) ∧ w.grownBy w' v.ownBlock := by
  obtain ⟨i0, hi, hz0, hz1, hz2⟩ := info_parts int_info
  obtain ⟨A', c', w2, h1, h2, h3⟩ := run_append_rows (P := Try.prog) w base 40 3 i0 _ 1 8 Try.underlying40 hi hz0 hz1 hz2 rfl (by decide) v l.length (ints l) hown B m.length c (ints m) (by simp) (ints_one m) hr (by unfold maxLen; omega) (by omega) hb
  refine ⟨A', c', w2, h1, ?_, h3⟩
  have e : ints (l ++ m) = ints l ++ ints m := by simp [ints]
  rw [e]; exact h2
theorem own_putN {w : World} {base c k n : Nat} {A : Option Addr} {M : List Int} (h : w.ownsRow base 3 1 (.slice A n c) n (ints M)) (hn : M.length = n) (hk : k < n) :
    ∃ g, A = some ⟨g, 0, none⟩ ∧ base ≤ g ∧ g < w.heap.size ∧ w.frozen? ⟨g, k, none⟩ = false ∧ w.cell? ⟨g, k, none⟩ = some (.int .i64 (M.getD k 0)) ∧ (∀ b T cs, T ≠ 3 → Bx w b T cs → b ≠ g) ∧
      ∀ x, (w.setCell ⟨g, k, none⟩ (.int .i64 x)).ownsRow base 3 1 (.slice A n c) n (ints (M.set k x)) := by
  have h' := h
  rcases h'.2 with ⟨he, _⟩ | ⟨g, cap, cur, hv, hb, hg, _⟩
  · simp at he; omega
  · simp only [Value.slice.injEq] at hv
    obtain ⟨rfl, _, rfl⟩ := hv
    have hgl : g < w.heap.size := (Array.getElem?_eq_some_iff.1 hg).1
    refine ⟨g, rfl, hb, hgl, h.frozenAt _, ?_, ?_, fun x => ?_⟩
    · obtain ⟨b, o, he, _, h0⟩ := (own_rd h).1.one (k := k) (by omega)
      injection he with he
      injection he with e1 e2
      subst e1 e2
      rw [Nat.zero_add] at h0
      exact h0
    · intro b T cs hT hx hbg
      subst hbg
      have h1 : w.heap[b]? = some (.cells cs T (0, 0)) := hx
      rw [hg] at h1
      injection h1 with h1
      injection h1 with _ h1
      exact hT h1.symm
    · have e : ints (M.set k x) = (ints M).set k (.int .i64 x) := by simp [ints, List.map_set]
      rw [e]
      exact (h.stored _ _).1
theorem top_way (l : List It) (fs : List Fx) (m e : Int) : (byE l fs m e ≠ 0 ∧ chB l fs m e = false) ∨
    (byE l fs m e = 0 ∧ chB l fs m e = false ∧ bstE l fs 792 = 0 ∧ FairP (bstG l fs 792) ∧ (0 < (bstG l fs 792).1 ∧ m * (bstG l fs 792).2 < (bstG l fs 792).1 * e) ∧ clsE l m e = 0 ∧ clsG l m e = false ∧ (0 ≤ m ∧ m ≤ 1000000) ∧ (0 < e ∧ e ≤ 1000000)) ∨
    (byE l fs m e = 0 ∧ chB l fs m e = true ∧ bstE l fs (chK l fs m e) = 0 ∧ FairP (bstG l fs (chK l fs m e)) ∧ (bstG l fs (chK l fs m e)).1 * e ≤ m * (bstG l fs (chK l fs m e)).2 ∧ ((0 ≤ m ∧ m ≤ 1000000) ∧ (0 < e ∧ e ≤ 1000000)) ∧ clsE l m e = 0 ∧ clsG l m e = (decide (chK l fs m e = 0) && decide ((chC l fs m e).length = 0)) ∧ True) := by
  by_cases hby : byE l fs m e = 0
  · have hl := limB_iff.1 (byE_ok hby).2
    cases hB : chB l fs m e with
    | false =>
      obtain ⟨h1, h2, h3, h4, h5, h6⟩ := top_no hby hB
      exact .inr (.inl ⟨hby, rfl, h1, h2, ⟨h3, h4⟩, h5, h6, by omega, by omega⟩)
    | true =>
      obtain ⟨_, _, h1, h2, h3, h4, h5⟩ := top_yes hB
      exact .inr (.inr ⟨hby, rfl, h1, h2, h3, by omega, h4, h5, trivial⟩)
  · refine .inl ⟨hby, ?_⟩
    unfold chB; rw [if_neg hby]
end Go.Proofs.Ytgbjglkiaoplmaa
