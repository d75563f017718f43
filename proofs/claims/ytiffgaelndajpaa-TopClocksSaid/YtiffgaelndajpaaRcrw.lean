/- The specification's: the first crowded stretch, whether jobs can be kept, slack and speed. -/
import Derived.Test.YtiffgaelndajpaaCrw
import Derived.Test.YtiffgaelndajpaaSpd
import Derived.Test.YtiffgaelndajpaaEnds
namespace Go.Proofs.Ytiffgaelndajpaa
open Go.RowKit

/-- What the specification has after some stretches: the smallest, and whether there is one. -/
def RSl (l : List T3) (pre : List (Int × Int)) (m : Int) (b : Bool) : Prop :=
  (b = false ∧ m = 0 ∧ slackS l pre = 60 ∧ ∀ s ∈ pre, dem l s.1 s.2 = 0) ∨ (b = true ∧ m = slackS l pre ∧ ∃ s ∈ pre, 0 < dem l s.1 s.2)
theorem rsl_next {l : List T3} (hl : Ok l) {pre : List (Int × Int)} {x : Int × Int} {m : Int} {b : Bool} (hx : 0 ≤ x.1 ∧ x.1 < x.2 ∧ x.2 ≤ 60) (h : RSl l pre m b) :
    (0 < dem l x.1 x.2 → (b = false ∨ x.2 - x.1 - dem l x.1 x.2 < m) → RSl l (pre ++ [x]) (x.2 - x.1 - dem l x.1 x.2) true) ∧
    (¬ 0 < dem l x.1 x.2 → RSl l (pre ++ [x]) m b) ∧ (b = true → ¬ x.2 - x.1 - dem l x.1 x.2 < m → RSl l (pre ++ [x]) m b) := by
  have hd := dem_range hl x.1 x.2
  have hS := slackS_snoc l pre x
  unfold slStep at hS
  refine ⟨fun h1 h2 => ?_, fun h1 => ?_, fun h1 h2 => ?_⟩
  · rw [if_pos h1] at hS
    refine .inr ⟨rfl, ?_, x, by simp, h1⟩
    rcases h with ⟨h3, _, h4, _⟩ | ⟨h3, h4, _⟩
    · rw [hS, h4]; omega
    · rcases h2 with h2 | h2
      · rw [h3] at h2; cases h2
      · rw [hS, ← h4]; omega
  · rw [if_neg h1] at hS
    rcases h with ⟨h3, h4, h5, h6⟩ | ⟨h3, h4, s, h5, h6⟩
    · refine .inl ⟨h3, h4, by rw [hS, h5], fun s hs => ?_⟩
      rcases List.mem_append.1 hs with h' | h'
      · exact h6 s h'
      · rw [List.mem_singleton.1 h']; omega
    · exact .inr ⟨h3, by rw [hS, h4], s, by simp [h5], h6⟩
  · rcases h with ⟨h3, _⟩ | ⟨h3, h4, s, h5, h6⟩
    · rw [h1] at h3; cases h3
    · refine .inr ⟨h3, ?_, s, by simp [h5], h6⟩
      rw [hS]
      split
      · omega
      · exact h4
theorem rsl_end {l : List T3} (hl : Ok l) {m : Int} {b : Bool} (h : RSl l strL m b) : m = slackL l ∧ b = decide (0 < l.length) := by
  by_cases hn : 0 < l.length
  · have hd := dem_of hl hn (Int.le_refl _) (Int.le_refl _)
    have h4 := hl.jobs.get hn
    have hm : ((l.getD 0 t0).1, (l.getD 0 t0).2.1) ∈ strL := mem_strL.2 ⟨h4.f0, h4.fb, h4.b1⟩
    rcases h with ⟨_, _, _, h6⟩ | ⟨h3, h5, _⟩
    · have := h6 _ hm
      simp only [] at this
      omega
    · exact ⟨by rw [h5, slackL, if_neg (by omega)], by rw [h3, decide_eq_true hn]⟩
  · rcases h with ⟨h3, h4, _⟩ | ⟨_, _, s, _, h6⟩
    · exact ⟨by rw [h4, slackL, if_pos (by omega)], by rw [h3, decide_eq_false hn]⟩
    · rw [dem_empty (by omega)] at h6; omega

set_option maxRecDepth 100000 in
set_option maxHeartbeats 4000000 in
theorem rCrowded_c (A : Option Addr) (l : List T3) (c : Nat) (w : World) (hlen : l.length ≤ 1000) (hr : Rd w A (cellsT l)) :
    Calls Try.prog 37 #[.slice A l.length c] w fun e w' => e = .returned (.tuple #[.int .i64 (cwG l).1, .int .i64 (cwG l).2.1, .bool (cwG l).2.2, .int .i64 (validE l)]) ∧ Below w.heap.size w w' := by
  have HV := Lib.hid (rvalidate_c A l c w hlen hr)
  by_cases hv : validE l = 0
  · have hl := validE_ok.1 hv
    have HCS := Lib.hid (fun s => @cwG_some l hv s)
    have HCN := Lib.hid (@cwG_none l hv)
    rw [hv] at HV ⊢
    clear hv
    go_enter Try.func37, Try.ntmps37
    go_wp2_with (fail)
    refine HV.out.mono ?_
    rintro e w1 ⟨rfl, hb1⟩
    clear HV
    go_wp2_with (fail)
    go_loopg [7] 60 (fun gk av wr => ∃ a : Nat, Hid (a + gk = 60) ∧ av = .int .i64 (a : Int) ∧ Hid (∀ x ∈ preS a 0, crwB l x = false) ∧ Below w.heap.size w wr)
    case atStart => exact ⟨0, rfl, rfl, fun x hx => by simp [preS, strTo, rowTo] at hx, hb1⟩
    case round =>
      obtain ⟨a, HA, rfl, HP, hb⟩ := hrel
      rcases gk with _ | gi
      · obtain rfl : a = 60 := HA.out
        have HCF : Hid (cwG l = (0, 0, false)) := HCN.out (crowdF_none (by rw [← preS_end]; exact HP.out))
        go_wp2_with (fail)
        refine bodyPost_ret (by simp [results, Try.f37, go_sem]; rfl) rfl ?_
        exact ⟨by rw [HCF.out], hb⟩
      · have ha : a < 60 := by have := HA.out; omega
        have ha' : (a : Int) < 60 := by omega
        go_wp2_with (fail)
        go_loopg [8] (60 - a) (fun gk bv wq => ∃ m : Nat, Hid (m + gk = 60 - a) ∧ bv = .int .i64 ((a : Int) + 1 + m) ∧ Hid (∀ x ∈ preS a m, crwB l x = false) ∧ Below w.heap.size w wq)
        case atStart => exact ⟨0, by simp [Hid], by simp, HP.out, hb⟩
        case round =>
          clear hb
          obtain ⟨m, HM, rfl, HP2, hb⟩ := hrel
          rcases gk with _ | gj
          · have hm : m = 60 - a := HM.out
            have hbb : ¬ (a : Int) + 1 + m ≤ 60 := by omega
            have HP3 : Hid (∀ x ∈ preS (a + 1) 0, crwB l x = false) := by rw [← preS_next, ← hm]; exact HP2.out
            clear hm
            go_wp2_with (fail)
            go_roundg gi
            case rel => exact ⟨a + 1, by have := HA.out; show _ = _; omega, by go_num, HP3.out, hb⟩
            case measure => omega
          · have hm : m < 60 - a := by have := HM.out; omega
            have hbb : (a : Int) + 1 + m ≤ 60 := by omega
            have hm0 : (0 : Int) ≤ m := by omega
            have ha0 : (0 : Int) ≤ a := by omega
            obtain ⟨t, hpre⟩ := preS_pre a m ha hm
            have HD := Lib.hid (rdemand_c A l c a ((a : Int) + 1 + m) wr hlen hl.jobs (hr.later hb))
            have HB : Hid (crwB l ((a : Int), (a : Int) + 1 + m) = decide ((a : Int) + 1 + m - a < dem l a ((a : Int) + 1 + m))) := rfl
            have HY : Hid (crwB l ((a : Int), (a : Int) + 1 + m) = true → cwG l = ((a : Int), (a : Int) + 1 + m, true)) := fun h => HCS.out _ (crowdF_found hpre HP2.out h)
            have HNO : Hid (crwB l ((a : Int), (a : Int) + 1 + m) = false → ∀ y ∈ preS a (m + 1), crwB l y = false) := fun h y hy => by
              rw [preS_succ] at hy
              rcases List.mem_append.1 hy with h' | h'
              · exact HP2.out y h'
              · rw [List.mem_singleton.1 h']; exact h
            rw [HB.out] at HY HNO
            clear hpre HB
            obtain ⟨B, hB⟩ : ∃ B, B = (a : Int) + 1 + m := ⟨_, rfl⟩
            have HBB := Lib.hid hB
            rw [← hB] at HD HY HNO hbb ⊢
            have hB0 : 0 ≤ B := by omega
            clear hB
            generalize dem l a B = D at *
            by_cases hD : B - a < D
            · have HF := Lib.hid (HY.out (decide_eq_true hD))
              clear HY HNO
              go_wp2_with (fail)
              refine HD.out.mono ?_
              rintro e w4 ⟨rfl, hb4⟩
              go_wp2_with (fail)
              refine bodyPost_ret (by simp [results, Try.f37, go_sem]; rfl) rfl ?_
              exact ⟨by rw [HF.out], bl_call hb hb4⟩
            · have HF := Lib.hid (HNO.out (decide_eq_false hD))
              clear HY HNO
              go_wp2_with (fail)
              refine HD.out.mono ?_
              rintro e w4 ⟨rfl, hb4⟩
              go_wp2_with (fail)
              go_roundg gj
              case rel => exact ⟨m + 1, by have := HM.out; show _ = _; omega, by have := HBB.out; congr 1; omega, HF.out, bl_call hb hb4⟩
              case measure => omega
  · rw [cwG_bad hv]
    have hv' : (validE l != 0) = true := by simpa using hv
    generalize validE l = ev at *
    go_enter Try.func37, Try.ntmps37
    go_wp2_with (fail)
    refine HV.out.mono ?_
    rintro e w1 ⟨rfl, hb1⟩
    go_wp2_with (fail)
    refine bodyPost_ret (by simp [results, Try.f37, go_sem]; rfl) rfl ?_
    exact ⟨rfl, hb1⟩
theorem can_cw {l : List T3} (hv : validE l = 0) : canG l = !(cwG l).2.2 := by
  have hl := validE_ok.1 hv
  rw [canG, if_pos hv, canB, cwG, if_pos hv]
  cases h : crowdF l with
  | none => rw [decide_eq_true ((can_crowd hl).2 h)]; rfl
  | some s => rw [decide_eq_false (fun x => by rw [(can_crowd hl).1 x] at h; cases h)]; rfl
theorem rCanKeep_c (A : Option Addr) (l : List T3) (c : Nat) (w : World) (hlen : l.length ≤ 1000) (hr : Rd w A (cellsT l)) :
    Calls Try.prog 23 #[.slice A l.length c] w fun e w' => e = .returned (.tuple #[.bool (canG l), .int .i64 (validE l)]) ∧ Below w.heap.size w w' := by
  have HV := Lib.hid (rvalidate_c A l c w hlen hr)
  by_cases hv : validE l = 0
  · have HB := can_cw hv
    have HC := fun w h => Lib.hid (rCrowded_c A l c w hlen h)
    rw [hv] at HV HC ⊢
    rw [HB]
    clear HB hv
    generalize cwG l = g at *
    obtain ⟨g1, g2, g3⟩ := g
    simp only [] at HC ⊢
    go_enter Try.func23, Try.ntmps23
    go_wp2_with (fail)
    refine HV.out.mono ?_
    rintro e w1 ⟨rfl, hb1⟩
    go_wp2_with (fail)
    refine (HC _ (hr.later hb1)).out.mono ?_
    rintro e w2 ⟨rfl, hb2⟩
    go_wp2_with (fail)
    go_ret2
    exact ⟨rfl, bl_call hb1 hb2⟩
  · have HB : canG l = false := by rw [canG, if_neg hv]
    have hv' : (validE l != 0) = true := by simpa using hv
    rw [HB]
    clear HB
    generalize validE l = ev at *
    go_enter Try.func23, Try.ntmps23
    go_wp2_with (fail)
    refine HV.out.mono ?_
    rintro e w1 ⟨rfl, hb1⟩
    go_wp2_with (fail)
    go_ret2
    exact ⟨rfl, hb1⟩

set_option maxRecDepth 100000 in
set_option maxHeartbeats 4000000 in
theorem rSlack_c (A : Option Addr) (l : List T3) (c : Nat) (w : World) (hlen : l.length ≤ 1000) (hr : Rd w A (cellsT l)) :
    Calls Try.prog 39 #[.slice A l.length c] w fun e w' => e = .returned (.tuple #[.int .i64 (slackG l), .bool (someG l), .int .i64 (validE l)]) ∧ Below w.heap.size w w' := by
  have HV := Lib.hid (rvalidate_c A l c w hlen hr)
  by_cases hv : validE l = 0
  · have hl := validE_ok.1 hv
    have HB1 : Hid (slackG l = slackL l) := by show _ = _; rw [slackG, if_pos hv]
    have HB2 : Hid (someG l = decide (0 < l.length)) := by show _ = _; rw [someG, if_pos hv]
    rw [hv] at HV ⊢
    clear hv
    go_enter Try.func39, Try.ntmps39
    go_wp2_with (fail)
    refine HV.out.mono ?_
    rintro e w1 ⟨rfl, hb1⟩
    clear HV
    go_wp2_with (fail)
    go_loopg [6, 7, 8] 60 (fun gk mv sv av wr => ∃ (a : Nat) (y : Int) (b : Bool), Hid (a + gk = 60) ∧ av = .int .i64 (a : Int) ∧ mv = .int .i64 y ∧ sv = .bool b ∧ Hid (RSl l (preS a 0) y b) ∧ Hid (-1000 ≤ y ∧ y ≤ 1000) ∧ Below w.heap.size w wr)
    case atStart => exact ⟨0, 0, false, rfl, rfl, rfl, rfl, .inl ⟨rfl, rfl, rfl, fun s hs => by simp [preS, strTo, rowTo] at hs⟩, ⟨by omega, by omega⟩, hb1⟩
    case round =>
      obtain ⟨a, y, b, HA, rfl, rfl, rfl, HP, HY, hb⟩ := hrel
      rcases gk with _ | gi
      · obtain rfl : a = 60 := HA.out
        have HE : Hid (y = slackL l ∧ b = decide (0 < l.length)) := rsl_end hl (by rw [← preS_end]; exact HP.out)
        go_wp2_with (fail)
        go_ret3
        exact ⟨by rw [HB1.out, HB2.out, ← HE.out.1, ← HE.out.2]; rfl, hb⟩
      · have ha : a < 60 := by have := HA.out; omega
        have ha' : (a : Int) < 60 := by omega
        go_wp2_with (fail)
        go_loopg [6, 7, 9] (60 - a) (fun gk mv sv bv wq => ∃ (m : Nat) (y : Int) (b : Bool), Hid (m + gk = 60 - a) ∧ bv = .int .i64 ((a : Int) + 1 + m) ∧ mv = .int .i64 y ∧ sv = .bool b ∧ Hid (RSl l (preS a m) y b) ∧ Hid (-1000 ≤ y ∧ y ≤ 1000) ∧ Below w.heap.size w wq)
        case atStart => exact ⟨0, y, b, by simp [Hid], by simp, rfl, rfl, HP.out, HY.out, hb⟩
        case round =>
          clear hb HP HY
          obtain ⟨m, y, b, HM, rfl, rfl, rfl, HP, HY, hb⟩ := hrel
          rcases gk with _ | gj
          · have hm : m = 60 - a := HM.out
            have hbb : ¬ (a : Int) + 1 + m ≤ 60 := by omega
            have HP3 : Hid (RSl l (preS (a + 1) 0) y b) := by rw [← preS_next, ← hm]; exact HP.out
            clear hm
            go_wp2_with (fail)
            go_roundg gi
            case rel => exact ⟨a + 1, y, b, by have := HA.out; show _ = _; omega, by go_num, rfl, rfl, HP3.out, HY.out, hb⟩
            case measure => omega
          · have hm : m < 60 - a := by have := HM.out; omega
            have hbb : (a : Int) + 1 + m ≤ 60 := by omega
            have hm0 : (0 : Int) ≤ m := by omega
            have ha0 : (0 : Int) ≤ a := by omega
            have HD := Lib.hid (rdemand_c A l c a ((a : Int) + 1 + m) wr hlen hl.jobs (hr.later hb))
            have HN := Lib.hid (rsl_next hl (x := ((a : Int), (a : Int) + 1 + m)) (by simp only []; omega) HP.out)
            rw [← preS_succ] at HN
            have hdr := dem_range hl a ((a : Int) + 1 + m)
            obtain ⟨B, hB⟩ : ∃ B, B = (a : Int) + 1 + m := ⟨_, rfl⟩
            have HBB := Lib.hid hB
            rw [← hB] at HD HN hbb hdr ⊢
            have hB0 : 0 ≤ B := by omega
            clear hB
            simp only [] at HN
            obtain ⟨d0, d1⟩ := hdr
            obtain ⟨y0, y1⟩ := HY.out
            generalize dem l a B = D at *
            have HR : Hid (∀ y' b', RSl l (preS a (m + 1)) y' b' → -1000 ≤ y' → y' ≤ 1000 → ∀ w4, Below wr.heap.size wr w4 → ∃ (m : Nat) (y : Int) (b : Bool), Hid (m + gj = 60 - a) ∧ Value.int .i64 (B + 1) = .int .i64 ((a : Int) + 1 + m) ∧ Value.int .i64 y' = .int .i64 y ∧ Value.bool b' = .bool b ∧ Hid (RSl l (preS a m) y b) ∧ Hid (-1000 ≤ y ∧ y ≤ 1000) ∧ Below w.heap.size w w4) := fun y' b' h1 h2 h3 w4 hw =>
              ⟨m + 1, y', b', by have := HM.out; show _ = _; omega, by have := HBB.out; congr 1; omega, rfl, rfl, h1, ⟨h2, h3⟩, bl_call hb hw⟩
            by_cases hD : 0 < D
            · cases b with
              | false =>
                have HF := Lib.hid (HN.out.1 hD (.inl rfl))
                clear HN
                go_wp2_with (fail)
                refine HD.out.mono ?_
                rintro e w4 ⟨rfl, hb4⟩
                go_wp2_with (fail)
                go_roundg gj
                case rel => exact HR.out _ _ HF.out (by omega) (by omega) _ hb4
                case measure => omega
              | true =>
                by_cases hlt : B - a - D < y
                · have HF := Lib.hid (HN.out.1 hD (.inr hlt))
                  clear HN
                  go_wp2_with (fail)
                  refine HD.out.mono ?_
                  rintro e w4 ⟨rfl, hb4⟩
                  go_wp2_with (fail)
                  go_roundg gj
                  case rel => exact HR.out _ _ HF.out (by omega) (by omega) _ hb4
                  case measure => omega
                · have HF := Lib.hid (HN.out.2.2 rfl hlt)
                  clear HN
                  go_wp2_with (fail)
                  refine HD.out.mono ?_
                  rintro e w4 ⟨rfl, hb4⟩
                  go_wp2_with (fail)
                  go_roundg gj
                  case rel => exact HR.out _ _ HF.out y0 y1 _ hb4
                  case measure => omega
            · have HF := Lib.hid (HN.out.2.1 hD)
              clear HN
              go_wp2_with (fail)
              refine HD.out.mono ?_
              rintro e w4 ⟨rfl, hb4⟩
              go_wp2_with (fail)
              go_roundg gj
              case rel => exact HR.out _ _ HF.out y0 y1 _ hb4
              case measure => omega
  · have HB1 : slackG l = 0 := by rw [slackG, if_neg hv]
    have HB2 : someG l = false := by rw [someG, if_neg hv]
    have hv' : (validE l != 0) = true := by simpa using hv
    rw [HB1, HB2]
    clear HB1 HB2
    generalize validE l = ev at *
    go_enter Try.func39, Try.ntmps39
    go_wp2_with (fail)
    refine HV.out.mono ?_
    rintro e w1 ⟨rfl, hb1⟩
    go_wp2_with (fail)
    go_ret3
    exact ⟨rfl, hb1⟩
end Go.Proofs.Ytiffgaelndajpaa
