/- The document's count. -/
import Derived.Test.YteoajadcdjaalaaCntD
import Derived.Test.YteoajadcdjaalaaRfirst
import Derived.Test.YteoajadcdjaalaaAlkM
namespace Go.Proofs.Yteoajadcdjaalaa
open Go.RowKit

/-- The gate i may be the last one of the set X, told by the first k gates. -/
def lastTo (l : List G) (X i : Nat) : Nat → Bool
  | 0 => true
  | k + 1 => lastTo l X i k && (decide (k = i) || !tiedG (l.getD i g0) (l.getD k g0) || (X.testBit k == decide (k < i)))
theorem lastTo_iff (l : List G) (X i : Nat) : ∀ k, lastTo l X i k = true ↔ ∀ a, a < k → a = i ∨ tiedG (l.getD i g0) (l.getD a g0) = false ∨ X.testBit a = decide (a < i)
  | 0 => by simp [lastTo]
  | k + 1 => by
    rw [lastTo, Bool.and_eq_true, lastTo_iff l X i k]
    simp only [Bool.or_eq_true, decide_eq_true_eq, Bool.not_eq_true', beq_iff_eq, or_assoc]
    constructor
    · rintro ⟨h1, h2⟩ a ha
      by_cases h : a = k
      · subst h; exact h2
      · exact h1 a (by omega)
    · intro h
      exact ⟨fun a ha => h a (by omega), h k (by omega)⟩
def rX (l : List G) (X i : Nat) : Nat := sumN (fun a => if X.testBit a = true ∧ lastTo l X a l.length = true then oX l (X - 2 ^ a) else 0) i
theorem rX_all {l : List G} {X : Nat} (hm : l.length ≤ 10) (hX : X < 2 ^ l.length) (h0 : X ≠ 0) : rX l X l.length = oX l X := by
  rw [oX, oS_step (tb_irr l) (fun i => lastTo l X i l.length = true) ?_ ?_ (nonzero_bit hX h0), rX]
  · refine sumN_congr _ fun i hi => ?_
    by_cases h : X.testBit i = true ∧ lastTo l X i l.length = true
    · rw [if_pos h, if_pos h, oX_rem hm hX hi h.1]
    · rw [if_neg h, if_neg h]
  · intro i hi hs hc j hj hp
    have hlt := tb_lt hp
    have ht : tiedG (l.getD i g0) (l.getD j g0) = true := by
      rw [tb, Bool.and_eq_true] at hp; rw [tiedG_symm]; exact hp.2
    rw [remB_iff]
    refine ⟨?_, by omega⟩
    rcases (lastTo_iff l X i _).1 hc j hj with h | h | h
    · omega
    · rw [ht] at h; cases h
    · rw [h]; simp [hlt]
  · intro i hi hl hd
    rw [lastTo_iff]
    intro a ha
    by_cases hai : a = i
    · exact .inl hai
    · cases ht : tiedG (l.getD i g0) (l.getD a g0)
      · exact .inr (.inl rfl)
      · refine .inr (.inr ?_)
        by_cases hlt : a < i
        · have : tb l a i = true := by rw [tb, tiedG_symm, ht]; simp [hlt]
          rw [hd a ha this]; simp [hlt]
        · have hp : tb l i a = true := by rw [tb, ht]; simp; omega
          have hn : X.testBit a = false := by
            cases hx : X.testBit a
            · rfl
            · have := (lastB_iff.1 hl).2 a ha hx
              rw [hp] at this; cases this
          rw [hn]; simp [hlt]
theorem sumN_part {f : Nat → Nat} {i m : Nat} (h : i ≤ m) : sumN f i ≤ sumN f m := by
  induction m with
  | zero => obtain rfl : i = 0 := by omega
            exact Nat.le_refl _
  | succ m ih =>
    by_cases hi : i ≤ m
    · have := ih hi; rw [sumN]; omega
    · obtain rfl : i = m + 1 := by omega
      exact Nat.le_refl _
theorem rX_le {l : List G} {X i : Nat} (hm : l.length ≤ 10) (hX : X < 2 ^ l.length) (h0 : X ≠ 0) (hi : i ≤ l.length) : rX l X i ≤ 10000000000 := by
  have h1 : rX l X i ≤ rX l X l.length := sumN_part hi
  rw [rX_all hm hX h0] at h1
  have := oX_le X hm
  omega
theorem rX_succ (l : List G) (X i : Nat) : rX l X (i + 1) = rX l X i + if X.testBit i = true ∧ lastTo l X i l.length = true then oX l (X - 2 ^ i) else 0 := rfl
/-- The row of the document's table. -/
def rRow (l : List G) (X i : Nat) : List Int := rowF (2 ^ l.length) fun Y => if Y < X then (oX l Y : Int) else if Y = X then (rX l X i : Int) else 0
theorem rRow_next {l : List G} {X : Nat} (hm : l.length ≤ 10) (hX : X < 2 ^ l.length) (h0 : X ≠ 0) : rRow l X l.length = rRow l (X + 1) 0 := rowF_congr fun Y _ => by
  by_cases h : Y < X
  · rw [if_pos h, if_pos (by omega)]
  · by_cases h2 : Y = X
    · subst h2; rw [if_neg h, if_pos rfl, if_pos (by omega), rX_all hm hX h0]
    · rw [if_neg h, if_neg h2, if_neg (by omega)]; simp [rX, sumN]
theorem rRow_set (l : List G) (X i j : Nat) : (rRow l X i).set X (rX l X j : Int) = rRow l X j :=
  rowF_set (by simp) fun a _ h => by simp [h]
theorem rRow_keep {l : List G} {X i : Nat} (h : ¬ (X.testBit i = true ∧ lastTo l X i l.length = true)) : rRow l X i = rRow l X (i + 1) := by
  have e : rX l X (i + 1) = rX l X i := by rw [rX_succ, if_neg h]; rfl
  rw [rRow, rRow, e]
theorem rRow_start (l : List G) : (List.replicate (2 ^ l.length) (0 : Int)).set 0 1 = rRow l 1 0 := by
  rw [rowF_zero, rRow]
  refine rowF_set (by simp [oX_zero]) fun a _ h => ?_
  rw [if_neg (by omega)]; simp [rX, sumN]

set_option maxRecDepth 100000 in
set_option maxHeartbeats 4000000 in
theorem rCount_c (n : Int) (A : Option Addr) (l : List G) (c : Nat) (w : World) (hlen : l.length ≤ 1000) (hr : Rd w A (cellsG l)) :
    Calls Try.prog 30 #[.int .i64 n, .slice A l.length c] w fun e w' => e = .returned (.tuple #[.int .i64 (if validE n l = 0 then (cntL l : Int) else 0), .int .i64 (validE n l)]) ∧ Below w.heap.size w w' := by
  have HV := Lib.hid (rvalidate_c n A l c w hlen hr)
  by_cases hv : validE n l = 0
  · have hl10 : l.length ≤ 10 := (gatesE_ang hv).1
    have hgl := validE_gs hv
    rw [hv] at HV ⊢
    rw [if_pos rfl]
    obtain ⟨N, hN⟩ : ∃ N, N = 2 ^ l.length := ⟨_, rfl⟩
    obtain ⟨M, hM⟩ : ∃ M, N = M + 1 := ⟨N - 1, by have : 0 < 2 ^ l.length := Nat.two_pow_pos _; omega⟩
    have hN10 : N ≤ 1024 := by rw [hN]; exact pow_ten hl10
    have HN := Lib.hid hN
    have HM := Lib.hid hM
    have hsh : IntKind.i64.wrap ((2 : Int) ^ l.length) = (N : Int) := by
      have : ((2 ^ l.length : Nat) : Int) = (2 : Int) ^ l.length := by simp
      rw [← this, ← hN]; simp [IntKind.wrap, IntKind.bits, IntKind.signed]; omega
    have hl64 : (l.length : Int) ≤ 64 := by omega
    have hmk := fun w1 => make_ints2 N hN10 w1
    clear hN hM hv
    go_enter Try.func30, Try.ntmps30
    go_wp2_with (fail)
    refine HV.out.mono ?_
    rintro e w1 ⟨rfl, hb1⟩
    obtain ⟨cs, hmk1, hcs⟩ := hmk w1
    have hT0 : Row (w1.alloc (.cells cs 3)) w1.heap.size (List.replicate N 0) := by rw [hcs]; exact Bx.new w1 _ _
    have hbl : Below w1.heap.size w1 (w1.alloc (.cells cs 3)) := bl_alloc (Below.refl _ _) _
    have q1 := hT0.get (k := 0) (by have := HM.out; simp; omega)
    have q3 := Bx.free hT0 0
    have hset := hT0.set 0 1
    have hbs := bl_set hbl (Nat.le_refl w1.heap.size) (i := 0) (.int .i64 1)
    have hN0 : (0 : Int) < (N : Int) := by have := HM.out; omega
    have hN64 : (N : Int) ≤ 1024 := by omega
    have hr1 := hr.later hb1
    clear hmk hcs HV
    go_wp2_with (fail)
    have hset' : Row ((w1.alloc (.cells cs 3)).setCell ⟨w1.heap.size, 0, none⟩ (.int .i64 1)) w1.heap.size (rRow l 1 0) := by
      rw [← rRow_start, ← HN.out]; exact hset
    rw [World.setCell_alloc_new] at hset' hbs
    go_loopg [8] M (fun gk sv wr => ∃ X : Nat, Hid (X + gk = N) ∧ 1 ≤ X ∧ sv = .int .i64 (X : Int) ∧ Row wr w1.heap.size (rRow l X 0) ∧ Below w1.heap.size w1 wr)
    case atStart => exact ⟨1, by have h := HM.out; show _ = _; omega, Nat.le_refl _, rfl, hset', hbs⟩
    case round =>
      obtain ⟨X, HX, hX1, rfl, hrow, hb⟩ := hrel
      clear hset hset' hbs q1 q3 hT0 hbl hmk1
      rcases gk with _ | gd
      · obtain rfl : X = N := by have := HX.out; omega
        have hM := HM.out
        have q1 := hrow.get (k := M) (by rw [rRow, rowF_len, ← HN.out]; omega)
        have hM2 : M < 2 ^ l.length := by rw [← HN.out]; omega
        have e : (rRow l X 0).getD M 0 = (cntL l : Int) := by
          rw [rRow, rowF_get hM2, if_pos (by omega), cntL, ← HN.out, hM]; rfl
        rw [e] at q1
        subst hM
        go_wp2_with (fail)
        go_ret2
        exact ⟨rfl, bl_call hb1 hb⟩
      · have hXN : X < N := by have h := HX.out; omega
        have hXN' : (X : Int) < (N : Int) := by omega
        have hX2 : X < 2 ^ l.length := by rw [← HN.out]; exact hXN
        have hX10 : X < 1024 := by omega
        obtain ⟨wo, rfl⟩ : ∃ wo : World, wo = wr := ⟨_, rfl⟩
        go_wp2_with (fail)
        go_loopg [9] l.length (fun gk iv wi => ∃ i : Nat, Hid (i + gk = l.length) ∧ iv = .int .i64 (i : Int) ∧ Row wi w1.heap.size (rRow l X i) ∧ Below w1.heap.size w1 wi)
        case atStart => exact ⟨0, by simp [Hid], rfl, hrow, hb⟩
        case round =>
          obtain ⟨i, HI, rfl, hrow2, hb2⟩ := hrel
          rcases gk with _ | gi
          · obtain rfl : i = l.length := by have := HI.out; omega
            rw [rRow_next hl10 hX2 (by omega)] at hrow2
            go_wp2_with (fail)
            go_roundg gd
            case rel => exact ⟨X + 1, by have h := HX.out; show _ = _; omega, by omega, by go_num, hrow2, hb2⟩
            case measure => omega
          · have hil : i < l.length := by have h := HI.out; omega
            have hil' : (i : Int) < (l.length : Int) := by omega
            have hi10 : i < 10 := by omega
            have hi64 : (i : Int) ≤ 64 := by omega
            have hbit := bit_i64 hX10 hi10
            cases hb0 : X.testBit i with
            | false =>
              rw [hb0] at hbit
              simp only [Bool.false_eq_true, if_false] at hbit
              rw [rRow_keep (by rw [hb0]; simp)] at hrow2
              go_wp2_with (fail)
              go_roundg gi
              case rel => exact ⟨i + 1, by have h := HI.out; show _ = _; omega, by go_num, hrow2, hb2⟩
              case measure => omega
            | true =>
              rw [hb0, if_pos rfl] at hbit
              obtain ⟨wq, rfl⟩ : ∃ wq : World, wq = wr := ⟨_, rfl⟩
              go_wp2_with (fail)
              go_loopg [10, 11] l.length (fun gk lv kv wi => ∃ k : Nat, Hid (k + gk = l.length) ∧ kv = .int .i64 (k : Int) ∧ lv = .bool (lastTo l X i k) ∧ Below wq.heap.size wq wi)
              case atStart => exact ⟨0, by simp [Hid], rfl, rfl, Below.refl _ _⟩
              case round =>
                obtain ⟨k, HK, rfl, rfl, hb3⟩ := hrel
                rcases gk with _ | gl
                · obtain rfl : k = l.length := by have := HK.out; omega
                  have hbb := bl_call hb2 hb3
                  have hrow3 : Row wr w1.heap.size (rRow l X i) := Bx.call hrow2 hb3
                  cases hl : lastTo l X i l.length with
                  | false =>
                    rw [rRow_keep (by rw [hl]; simp)] at hrow3
                    go_wp2_with (fail)
                    go_roundg gi
                    case rel => exact ⟨i + 1, by have h := HI.out; show _ = _; omega, by go_num, hrow3, hbb⟩
                    case measure => omega
                  | true =>
                    obtain ⟨hbo, hbf, hge⟩ := (bit_facts X hX10 i hi10).1 hb0
                    have hE := rX_succ l X i
                    rw [if_pos ⟨hb0, hl⟩] at hE
                    have hle := rX_le (i := i + 1) hl10 hX2 (by omega) (by omega)
                    rw [hE] at hle
                    have q1 := hrow3.get (k := X) (by rw [rRow, rowF_len]; exact hX2)
                    rw [rRow, rowF_get hX2, if_neg (by omega), if_pos rfl] at q1
                    have hpp : 0 < 2 ^ i := Nat.two_pow_pos i
                    have q2 := hrow3.get (k := X - 2 ^ i) (by rw [rRow, rowF_len]; omega)
                    rw [rRow, rowF_get (by omega), if_pos (by omega)] at q2
                    have q3 := Bx.free hrow3 X
                    have hset := hrow3.set X (rX l X (i + 1) : Int)
                    rw [rRow_set, hE, Int.natCast_add] at hset
                    have hbs := bl_set hbb (Nat.le_refl w1.heap.size) (i := X) (.int .i64 ((rX l X i : Int) + (oX l (X - 2 ^ i) : Int)))
                    have hpi : 2 ^ i ≤ 2 ^ 10 := Nat.pow_le_pow_right (by omega) (by omega)
                    have hshi : IntKind.i64.wrap ((2 : Int) ^ i) = ((2 ^ i : Nat) : Int) := by
                      have : ((2 ^ i : Nat) : Int) = (2 : Int) ^ i := by simp
                      rw [← this]; simp [IntKind.wrap, IntKind.bits, IntKind.signed]; omega
                    have hYe : (X : Int) - ((2 ^ i : Nat) : Int) = ((X - 2 ^ i : Nat) : Int) := by omega
                    have hYN : ((X - 2 ^ i : Nat) : Int) < (N : Int) := by omega
                    clear hbo hbf hE hpp
                    generalize rX l X i = pv at *
                    generalize oX l (X - 2 ^ i) = ov at *
                    generalize hY : X - 2 ^ i = Y at *
                    clear hY
                    generalize 2 ^ i = s at *
                    go_wp2_with (fail)
                    go_region
                    go_wp2_with (fail)
                    go_roundg gi
                    case rel => exact ⟨i + 1, by have h := HI.out; show _ = _; omega, by go_num, Bx.drew hset, hbs.drew⟩
                    case measure => omega
                · have hkl : k < l.length := by have h := HK.out; omega
                  have hkl' : (k : Int) < (l.length : Int) := by omega
                  have hk10 : k < 10 := by omega
                  have hk64 : (k : Int) ≤ 64 := by omega
                  have hbitk := bit_i64 hX10 hk10
                  have HS : Hid (lastTo l X i (k + 1) = (lastTo l X i k && (decide (k = i) || !tiedG (l.getD i g0) (l.getD k g0) || (X.testBit k == decide (k < i))))) := rfl
                  have hCC : Below wq.heap.size wq wr.drew := hb3.drew
                  generalize lastTo l X i k = lv at *
                  by_cases hki : k = i
                  · subst hki
                    rw [hb0, if_pos rfl] at hbitk
                    have HS' : Hid (lastTo l X k (k + 1) = lv) := by show _ = _; rw [HS.out]; simp
                    clear HS
                    cases lv
                    all_goals
                      go_wp2_with (fail)
                      refine wp_region_low (hCC) (by kernel_rfl) (by kernel_rfl) ?_
                      repeat (first
                        | go_big_quiet_skip
                        | (go_big_quiet_want
                           apply Exists.intro
                           refine And.intro (fun W hW => ?_) ?_
                           · (skip)
                             go_simp
                             first
                               | exact rfl
                               | (fail)
                           try go_simp
                           go_big_quiet_on))
                      refine wpQuiet_nil ?_
                      intro w9 hb9
                      go_wp2_with (fail)
                      go_roundg gl
                      case rel => exact ⟨k + 1, by have h := HK.out; show _ = _; omega, by go_num, by rw [HS'.out], hb9⟩
                      case measure => omega
                  · have hgi := Lib.hid (hgl.get hil)
                    have hgk := Lib.hid (hgl.get hkl)
                    have hrr := hr1.later (bl_call hb2 hb3)
                    obtain ⟨b, o, rfl, hbl, ⟨c0, c1, c2, c3⟩, d0, d1, d2, d3⟩ := hrr.gates2 hil hkl
                    have hG : Hid (∀ w1, Below wq.heap.size wq w1 →
                        (w1.cell? ⟨b, o + i * 4, none⟩ = some (.int .i64 (l.getD i g0).1) ∧ w1.cell? ⟨b, o + i * 4 + 1, none⟩ = some (.int .i64 (l.getD i g0).2.1) ∧ w1.cell? ⟨b, o + i * 4 + 2, none⟩ = some (.int .i64 (l.getD i g0).2.2.1) ∧ w1.cell? ⟨b, o + i * 4 + 3, none⟩ = some (.int .i64 (l.getD i g0).2.2.2)) ∧
                        (w1.cell? ⟨b, o + k * 4, none⟩ = some (.int .i64 (l.getD k g0).1) ∧ w1.cell? ⟨b, o + k * 4 + 1, none⟩ = some (.int .i64 (l.getD k g0).2.1) ∧ w1.cell? ⟨b, o + k * 4 + 2, none⟩ = some (.int .i64 (l.getD k g0).2.2.1) ∧ w1.cell? ⟨b, o + k * 4 + 3, none⟩ = some (.int .i64 (l.getD k g0).2.2.2))) := fun w2 hb4 => by
                      obtain ⟨b', o', he, _, h1, h2⟩ := (hr1.later (bl_call hb2 hb4)).gates2 hil hkl
                      injection he with he
                      injection he with e1 e2
                      subst e1 e2
                      exact ⟨h1, h2⟩
                    have HT := Lib.hid (fun k a b t k' a' b' t' h h' => @rbound_tied k a b t k' a' b' t' h h')
                    generalize l.getD i g0 = x at *
                    generalize l.getD k g0 = y at *
                    obtain ⟨xk, xa, xb, xt⟩ := x
                    obtain ⟨yk, ya, yb, yt⟩ := y
                    simp only [] at c0 c1 c2 c3 d0 d1 d2 d3 hG
                    have HTE := Lib.hid (HT.out xk xa xb xt yk ya yb yt hgi.out hgk.out)
                    have HC := fun w => Lib.hid (rbound_c xk xa xb xt yk ya yb yt w)
                    rw [HTE.out] at HC
                    clear HT HTE hgi hgk
                    generalize tiedG (xk, xa, xb, xt) (yk, ya, yb, yt) = tb at HC HS
                    have hne : ((k : Int) == (i : Int)) = false := by rw [beq_eq_false_iff_ne]; omega
                    generalize X.testBit k = bk at *
                    have HS2 : Hid (lastTo l X i (k + 1) = (lv && (!tb || (bk == decide (k < i))))) := by show _ = _; rw [HS.out]; simp [hki]
                    clear HS
                    rcases Nat.lt_or_ge k i with hlt | hge
                    · have hlt' : (k : Int) < (i : Int) := by omega
                      rw [show decide (k < i) = true by simp [hlt]] at HS2
                      cases bk
                      all_goals
                        simp only [Bool.false_eq_true, if_false, if_true] at hbitk
                        cases tb
                        all_goals
                          cases lv
                          all_goals
                            have HS' := HS2.out
                            go_wp2_with (fail)
                            refine wp_region_low (hCC) (by kernel_rfl) (by kernel_rfl) ?_
                            repeat (first
                              | go_big_quiet_skip
                              | (go_big_quiet_want
                                 apply Exists.intro
                                 refine And.intro (fun W hW => ?_) ?_
                                 · (obtain ⟨⟨p0, p1, p2, p3⟩, q0, q1, q2, q3⟩ := hG.out W hW)
                                   go_simp
                                   first
                                     | exact rfl
                                     | ((refine (HC W).out.mono ?_; rintro e w1 ⟨rfl, hb1⟩; exact ⟨rfl, bl_call hW hb1⟩))
                                 try go_simp
                                 go_big_quiet_on))
                            refine wpQuiet_nil ?_
                            intro w9 hb9
                            go_wp2_with (fail)
                            go_roundg gl
                            case rel => exact ⟨k + 1, by have h := HK.out; show _ = _; omega, by go_num, by rw [HS']; rfl, hb9⟩
                            case measure => omega
                    · have hge' : ¬ (k : Int) < (i : Int) := by omega
                      rw [show decide (k < i) = false by simp; omega] at HS2
                      cases bk
                      all_goals
                        simp only [Bool.false_eq_true, if_false, if_true] at hbitk
                        cases tb
                        all_goals
                          cases lv
                          all_goals
                            have HS' := HS2.out
                            go_wp2_with (fail)
                            refine wp_region_low (hCC) (by kernel_rfl) (by kernel_rfl) ?_
                            repeat (first
                              | go_big_quiet_skip
                              | (go_big_quiet_want
                                 apply Exists.intro
                                 refine And.intro (fun W hW => ?_) ?_
                                 · (obtain ⟨⟨p0, p1, p2, p3⟩, q0, q1, q2, q3⟩ := hG.out W hW)
                                   go_simp
                                   first
                                     | exact rfl
                                     | ((refine (HC W).out.mono ?_; rintro e w1 ⟨rfl, hb1⟩; exact ⟨rfl, bl_call hW hb1⟩))
                                 try go_simp
                                 go_big_quiet_on))
                            refine wpQuiet_nil ?_
                            intro w9 hb9
                            go_wp2_with (fail)
                            go_roundg gl
                            case rel => exact ⟨k + 1, by have h := HK.out; show _ = _; omega, by go_num, by rw [HS']; first | rfl | (rw [show decide (k < i) = false by simp; omega]; rfl), hb9⟩
                            case measure => omega
  · rw [if_neg hv]
    generalize validE n l = ev at *
    go_enter Try.func30, Try.ntmps30
    go_wp2_with (fail)
    refine HV.out.mono ?_
    rintro e w1 ⟨rfl, hb1⟩
    go_wp2_with (fail)
    go_ret2
    exact ⟨rfl, hb1⟩
end Go.Proofs.Yteoajadcdjaalaa
