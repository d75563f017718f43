/- The specification's gates, and which of them commute. -/
import Derived.Test.YteoajadcdjaalaaComm
namespace Go.Proofs.Yteoajadcdjaalaa
open Go.RowKit

set_option maxRecDepth 100000 in
set_option maxHeartbeats 1000000 in
theorem risGate_c (n k a b t : Int) (w : World) (hn1 : 1 ≤ n) (hn4 : n ≤ 4) : Calls Try.prog 57 #[.int .i64 n, .agg #[.int .i64 k, .int .i64 a, .int .i64 b, .int .i64 t]] w fun e w' => e = .returned (.bool (isGateB n k a b t)) ∧ Below w.heap.size w w' := by
  have hbl : Below w.heap.size w (w.alloc (.cells #[.int .i64 k, .int .i64 a, .int .i64 b, .int .i64 t] 23)) := bl_alloc (Below.refl _ _) _
  by_cases h1 : 1 ≤ t ∧ t ≤ 15
  · have H1 : inB t 1 15 = true := inB_z.2 h1
    by_cases h2 : 0 ≤ a ∧ a ≤ n - 1
    · have H2 : inB a 0 (n - 1) = true := inB_z.2 h2
      have h2a := h2.1
      have h2b : a ≤ 4 := by omega
      by_cases h3 : k = 2
      · have HR : Hid (inB b (a + 1) (n - 1) = isGateB n k a b t) := by
          show _ = _
          rw [Bool.eq_iff_iff]; subst h3; simp [isGateB, inB]; omega
        subst h3
        go_enter Try.func57, Try.ntmps57
        go_wp2_with (go_at_call 64; refine (within_c _ _ _ _).mono ?_; rintro e w' ⟨rfl, rfl⟩)
        go_ret
        exact ⟨by rw [← HR.out]; rfl, hbl⟩
      · by_cases h4 : 0 ≤ k ∧ k ≤ 1
        · have H4 : inB k 0 1 = true := inB_z.2 h4
          have HR : Hid (isGateB n k a b t = (b == -1)) := by
            show _ = _
            rcases (by omega : k = 0 ∨ k = 1) with rfl | rfl
            all_goals
              rw [Bool.eq_iff_iff]; simp [isGateB]; omega
          go_enter Try.func57, Try.ntmps57
          go_wp2_with (go_at_call 64; refine (within_c _ _ _ _).mono ?_; rintro e w' ⟨rfl, rfl⟩)
          go_ret
          exact ⟨by rw [HR.out]; rfl, hbl⟩
        · have H4 : inB k 0 1 = false := by rw [← Bool.not_eq_true, inB_z]; exact h4
          have HR : Hid (isGateB n k a b t = false) := by
            show _ = _
            have e0 : (k == 0 || k == 1) = false := by simp; omega
            have e2 : (k == 2) = false := by simp [h3]
            simp [isGateB, e0, e2]
          go_enter Try.func57, Try.ntmps57
          go_wp2_with (go_at_call 64; refine (within_c _ _ _ _).mono ?_; rintro e w' ⟨rfl, rfl⟩)
          go_ret
          exact ⟨by rw [HR.out]; rfl, hbl⟩
    · have H2 : inB a 0 (n - 1) = false := by rw [← Bool.not_eq_true, inB_z]; exact h2
      have HR : Hid (isGateB n k a b t = false) := by
        show _ = _
        rw [← Bool.not_eq_true]
        intro hh
        simp only [isGateB, Bool.and_eq_true, decide_eq_true_eq] at hh
        obtain ⟨_, hh⟩ := hh
        split at hh
        · simp at hh; omega
        · split at hh
          · simp at hh; omega
          · simp at hh
      clear h2
      go_enter Try.func57, Try.ntmps57
      go_wp2_with (go_at_call 64; refine (within_c _ _ _ _).mono ?_; rintro e w' ⟨rfl, rfl⟩)
      go_ret
      exact ⟨by rw [HR.out]; rfl, hbl⟩
  · have H1 : inB t 1 15 = false := by rw [← Bool.not_eq_true, inB_z]; exact h1
    have HR : Hid (isGateB n k a b t = false) := by
      show _ = _
      rw [← Bool.not_eq_true]; simp [isGateB]; omega
    clear h1
    go_enter Try.func57, Try.ntmps57
    go_wp2_with (go_at_call 64; refine (within_c _ _ _ _).mono ?_; rintro e w' ⟨rfl, rfl⟩)
    go_ret
    exact ⟨by rw [HR.out]; rfl, hbl⟩

def rmeetB (k a b a' b' : Int) : Bool := a == a' || a == b' || (k == 2 && (b == a' || b == b'))
def rcommB (k a b k' a' b' : Int) : Bool := !rmeetB k a b a' b' || ((k == 1) == (k' == 1))
theorem rcomm_eq {k a b t k' a' b' t' : Int} (h : isGateB 4 k a b t = true) (h' : isGateB 4 k' a' b' t' = true) : rcommB k a b k' a' b' = commB k a b k' a' b' := by
  have hm : rmeetB k a b a' b' = meetB a b a' b' := by
    simp only [isGateB, Bool.and_eq_true, decide_eq_true_eq] at h h'
    obtain ⟨_, h⟩ := h
    obtain ⟨_, h'⟩ := h'
    have ha' : 0 ≤ a' := by
      split at h'
      · simp at h'; omega
      · split at h'
        · simp at h'; omega
        · simp at h'
    split at h
    · rename_i hk
      have hk2 : (k == 2) = false := by simp at hk ⊢; omega
      have hb : b = -1 := by simp at h; omega
      have hba : (b == a') = false := by simp; omega
      rw [rmeetB, meetB, hk2, hba, hb]
      simp
    · split at h
      · rename_i hk
        have hb : (b != -1) = true := by simp at h ⊢; omega
        rw [rmeetB, meetB, hk, hb]
        simp [Bool.or_assoc]
      · simp at h
  rw [rcommB, commB, hm]

set_option maxHeartbeats 1000000 in
theorem rmeets_c (k a b t k' a' b' t' : Int) (w : World) : Calls Try.prog 88 #[.agg #[.int .i64 k, .int .i64 a, .int .i64 b, .int .i64 t], .agg #[.int .i64 k', .int .i64 a', .int .i64 b', .int .i64 t']] w
    fun e w' => e = .returned (.bool (rmeetB k a b a' b')) ∧ Below w.heap.size w w' := by
  go_enter Try.func88, Try.ntmps88
  go_wp2
  all_goals
    go_ret
    exact ⟨ret_b (by simp [rmeetB, *]), bl_alloc (bl_alloc (Below.refl _ _) _) _⟩

theorem rCommutes_c (k a b t k' a' b' t' : Int) (w : World) : Calls Try.prog 58 #[.agg #[.int .i64 k, .int .i64 a, .int .i64 b, .int .i64 t], .agg #[.int .i64 k', .int .i64 a', .int .i64 b', .int .i64 t']] w
    fun e w' => e = .returned (.bool (rcommB k a b k' a' b')) ∧ Below w.heap.size w w' := by
  have x0 := (Bx.new w 23 #[.int .i64 k, .int .i64 a, .int .i64 b, .int .i64 t]).alloc (.cells #[.int .i64 k', .int .i64 a', .int .i64 b', .int .i64 t'] 23)
  have x1 : Bx ((w.alloc (.cells #[.int .i64 k, .int .i64 a, .int .i64 b, .int .i64 t] 23)).alloc (.cells #[.int .i64 k', .int .i64 a', .int .i64 b', .int .i64 t'] 23)) (w.heap.size + 1) 23 #[.int .i64 k', .int .i64 a', .int .i64 b', .int .i64 t'] := Bx.newAt (by simp)
  have hb0 := bl_alloc (bl_alloc (Below.refl w.heap.size w) (.cells #[.int .i64 k, .int .i64 a, .int .i64 b, .int .i64 t] 23)) (.cells #[.int .i64 k', .int .i64 a', .int .i64 b', .int .i64 t'] 23)
  have HM := fun w => Lib.hid (rmeets_c k a b t k' a' b' t' w)
  have HC : Hid (rcommB k a b k' a' b' = (!rmeetB k a b a' b' || ((k == 1) == (k' == 1)))) := rfl
  generalize rmeetB k a b a' b' = m at HM HC
  go_enter Try.func58, Try.ntmps58
  go_wp2_with (fail)
  refine (HM _).out.mono ?_
  rintro e w1 ⟨rfl, hb1⟩
  obtain ⟨i1, i2, i3, i4, _, _, _, _⟩ := (x0.call hb1).four
  obtain ⟨j1, j2, j3, j4, _, _, _, _⟩ := (x1.call hb1).four
  cases m
  all_goals
    go_wp2_with (fail)
    all_goals
      go_ret
      exact ⟨ret_b (by rw [HC.out]; simp [*]), bl_call hb0 hb1⟩

theorem commE_ok {g h : G} (h1 : gateB 4 g = true) (h2 : gateB 4 h = true) : commE g h = 0 := by simp [commE, gatesE, h1, h2]
theorem commE_no {g h : G} (hn : gateB 4 g = false ∨ gateB 4 h = false) : commE g h = 1 := by
  unfold commE gatesE
  rw [if_neg (by rcases hn with hn | hn <;> simp [hn])]

set_option maxRecDepth 100000 in
set_option maxHeartbeats 1000000 in
theorem rCommute_c (k a b t k' a' b' t' : Int) (w : World) : Calls Try.prog 19 #[.agg #[.int .i64 k, .int .i64 a, .int .i64 b, .int .i64 t], .agg #[.int .i64 k', .int .i64 a', .int .i64 b', .int .i64 t']] w
    fun e w' => e = .returned (.tuple #[.bool (commR (k, a, b, t) (k', a', b', t')), .int .i64 (commE (k, a, b, t) (k', a', b', t'))]) ∧ Below w.heap.size w w' := by
  have x0 := (Bx.new w 23 #[.int .i64 k, .int .i64 a, .int .i64 b, .int .i64 t]).alloc (.cells #[.int .i64 k', .int .i64 a', .int .i64 b', .int .i64 t'] 23)
  have x1 : Bx ((w.alloc (.cells #[.int .i64 k, .int .i64 a, .int .i64 b, .int .i64 t] 23)).alloc (.cells #[.int .i64 k', .int .i64 a', .int .i64 b', .int .i64 t'] 23)) (w.heap.size + 1) 23 #[.int .i64 k', .int .i64 a', .int .i64 b', .int .i64 t'] := Bx.newAt (by simp)
  have hb0 := bl_alloc (bl_alloc (Below.refl w.heap.size w) (.cells #[.int .i64 k, .int .i64 a, .int .i64 b, .int .i64 t] 23)) (.cells #[.int .i64 k', .int .i64 a', .int .i64 b', .int .i64 t'] 23)
  have HG1 := fun w => Lib.hid (risGate_c 4 k a b t w (by decide) (by decide))
  have HG2 := fun w => Lib.hid (risGate_c 4 k' a' b' t' w (by decide) (by decide))
  have E1 : Hid (gateB 4 (k, a, b, t) = isGateB 4 k a b t) := rfl
  have E2 : Hid (gateB 4 (k', a', b', t') = isGateB 4 k' a' b' t') := rfl
  have HQ := Lib.hid (fun h h' => @rcomm_eq k a b t k' a' b' t' h h')
  have HK := fun w => Lib.hid (rCommutes_c k a b t k' a' b' t' w)
  have HD : Hid (commR (k, a, b, t) (k', a', b', t') = (commE (k, a, b, t) (k', a', b', t') == 0 && commB k a b k' a' b')) := rfl
  cases g1 : isGateB 4 k a b t with
  | true =>
    cases g2 : isGateB 4 k' a' b' t' with
    | true =>
      rw [g1] at HG1 E1
      rw [g2] at HG2 E2
      have HE : commE (k, a, b, t) (k', a', b', t') = 0 := commE_ok E1.out E2.out
      have HR : Hid (rcommB k a b k' a' b' = commR (k, a, b, t) (k', a', b', t')) := by show _ = _; rw [HD.out, HE, HQ.out g1 g2]; simp
      rw [HE]
      rw [HR.out] at HK
      generalize commR (k, a, b, t) (k', a', b', t') = r at HK
      clear HD HQ HR HE g1 g2 E1 E2
      go_enter Try.func19, Try.ntmps19
      go_wp2_with (fail)
      refine (HG1 _).out.mono ?_
      rintro e w1 ⟨rfl, hb1⟩
      obtain ⟨i1, i2, i3, i4, _, _, _, _⟩ := (x0.call hb1).four
      obtain ⟨j1, j2, j3, j4, _, _, _, _⟩ := (x1.call hb1).four
      go_wp2_with (fail)
      refine (HG2 _).out.mono ?_
      rintro e w2 ⟨rfl, hb2⟩
      have hb2' := bl_call hb1 hb2
      obtain ⟨p1, p2, p3, p4, _, _, _, _⟩ := (x0.call hb2').four
      obtain ⟨q1, q2, q3, q4, _, _, _, _⟩ := (x1.call hb2').four
      clear i1 i2 i3 i4 j1 j2 j3 j4
      go_wp2_with (fail)
      refine (HK _).out.mono ?_
      rintro e w3 ⟨rfl, hb3⟩
      go_wp2_with (fail)
      go_ret2
      exact ⟨rfl, bl_call (bl_call hb0 hb2') hb3⟩
    | false =>
      rw [g1] at HG1
      rw [g2] at HG2 E2
      have HE : commE (k, a, b, t) (k', a', b', t') = 1 := commE_no (.inr E2.out)
      have HR : commR (k, a, b, t) (k', a', b', t') = false := by rw [HD.out, HE]; rfl
      rw [HE, HR]
      clear HD HQ HR HE g1 g2 E1 E2 HK
      go_enter Try.func19, Try.ntmps19
      go_wp2_with (fail)
      refine (HG1 _).out.mono ?_
      rintro e w1 ⟨rfl, hb1⟩
      obtain ⟨i1, i2, i3, i4, _, _, _, _⟩ := (x0.call hb1).four
      obtain ⟨j1, j2, j3, j4, _, _, _, _⟩ := (x1.call hb1).four
      go_wp2_with (fail)
      refine (HG2 _).out.mono ?_
      rintro e w2 ⟨rfl, hb2⟩
      go_wp2_with (fail)
      go_ret2
      exact ⟨rfl, bl_call hb0 (bl_call hb1 hb2)⟩
  | false =>
    rw [g1] at HG1 E1
    have HE : commE (k, a, b, t) (k', a', b', t') = 1 := commE_no (.inl E1.out)
    have HR : commR (k, a, b, t) (k', a', b', t') = false := by rw [HD.out, HE]; rfl
    rw [HE, HR]
    clear HD HQ HR HE g1 E1 E2 HK HG2
    go_enter Try.func19, Try.ntmps19
    go_wp2_with (fail)
    refine (HG1 _).out.mono ?_
    rintro e w1 ⟨rfl, hb1⟩
    go_wp2_with (fail)
    go_ret2
    exact ⟨rfl, bl_call hb0 hb1⟩
end Go.Proofs.Yteoajadcdjaalaa
