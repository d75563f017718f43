/- The walk of 'BudgetShares'. -/
import Derived.Test.YtgbjglkiaoplmaaChancesW
import Derived.Test.YtgbjglkiaoplmaaShr
import Derived.Test.YtgbjglkiaoplmaaRva
namespace Go.Proofs.Ytgbjglkiaoplmaa
open Go.RowKit

/-- Fractions that the totals give. -/
structure FairP (p : Int × Int) : Prop where
  d0 : 0 < p.2
  d1 : p.2 ≤ 2520
  n0 : 0 ≤ p.1
  n1 : p.1 ≤ 120960
theorem fair2_c {p : Int × Int} (h : FairP p) (w : World) : Calls Try.prog 27 #[.agg #[.int .i64 p.1, .int .i64 p.2]] w fun e w' => e = .returned (.bool true) ∧ Below w.heap.size w w' :=
  fair_c p.1 p.2 w h.d0 (by have := h.d1; omega) h.n0 (by have := h.n1; omega)
theorem lless2_c {p q : Int × Int} (hp : FairP p) (hq : FairP q) (h : ¬ p.1 * q.2 < q.1 * p.2) (w : World) : Calls Try.prog 28 #[.agg #[.int .i64 p.1, .int .i64 p.2], .agg #[.int .i64 q.1, .int .i64 q.2]] w fun e w' => e = .returned (.bool false) ∧ Below w.heap.size w w' := by
  have p1 := mul_in (a := p.1) (b := q.2) (A := 120960) (B := 2520) ⟨hp.n0, hp.n1⟩ ⟨by have := hq.d0; omega, hq.d1⟩
  have p2 := mul_in (a := q.1) (b := p.2) (A := 120960) (B := 2520) ⟨hq.n0, hq.n1⟩ ⟨by have := hp.d0; omega, hp.d1⟩
  have := lless_c p.1 p.2 q.1 q.2 w (by omega) (by omega)
  rw [decide_eq_false h] at this
  exact this
theorem parts_mono {m : Int} {l : List It} (hm : 0 ≤ m) (h : OkIs m l) : ∀ j k, k ≤ j → j ≤ l.length → partsTo l k ≤ partsTo l j
  | 0, k, hk, _ => by rw [show k = 0 by omega]; exact Int.le_refl _
  | j + 1, k, hk, hj => by
    rcases Nat.lt_or_ge k (j + 1) with h' | h'
    · have := parts_mono hm h j k (by omega) (by omega)
      have := ((h j (by omega)).share hm).1
      rw [partsTo]; omega
    · rw [show k = j + 1 by omega]; exact Int.le_refl _
theorem share_parts {l : List It} (h : valE l = 0) {k : Nat} (hk : k < l.length) : 0 ≤ shareP (l.getD k it0) ∧ shareP (l.getD k it0) ≤ partsL l ∧ partsL l ≤ 120960 := by
  have hok := val_ok h
  have h1 := parts_mono (by decide) hok l.length (k + 1) hk (Nat.le_refl _)
  have h2 := (parts_in (by decide) hok k (by omega)).1
  have h3 := (hok k hk).share (by decide)
  rw [partsTo] at h1
  refine ⟨h3.1, ?_, (parts_bound h).2⟩
  unfold partsL; omega
theorem fair_rat {p : Int} (h : 0 ≤ p ∧ p ≤ 120960) : FairP (rat p) := by
  have h1 := rat_num h.1
  have h2 := rat_den p
  exact ⟨h2.1, h2.2, h1.1, by omega⟩
theorem share_fair {l : List It} {k : Nat} (hk : k < (shrL l).length) : FairP ((shrL l).getD k (0, 0)) ∧ FairP (totG l) ∧ ¬ (totG l).1 * ((shrL l).getD k (0, 0)).2 < ((shrL l).getD k (0, 0)).1 * (totG l).2 := by
  by_cases h : valE l = 0
  · have hE : shrL l = shrF l := by unfold shrL; rw [if_pos h]
    have hT : totG l = rat (partsL l) := (tot_facts h).1
    rw [hE] at hk ⊢
    rw [shrF_len] at hk
    rw [hT, shrF_get hk]
    obtain ⟨s1, s2, s3⟩ := share_parts h hk
    refine ⟨fair_rat ⟨s1, by omega⟩, fair_rat (parts_bound h), ?_⟩
    rw [rat_lt]; omega
  · have hE : shrL l = [] := by unfold shrL; rw [if_neg h]
    rw [hE] at hk; simp at hk
theorem shrL_len (l : List It) : (shrL l).length ≤ l.length := by unfold shrL; split <;> simp [shrF_len]
set_option maxRecDepth 100000 in
set_option maxHeartbeats 4000000 in
theorem budgetShares_walk (A : Option Addr) (l : List It) (cap : Nat) (w : World) (_hcap : l.length ≤ cap) (hr : Rd w A (cellsI l)) :
    Calls Try.prog 3 #[.slice A l.length cap] w fun e w' => e = .returned (.bool true) ∧ Below w.heap.size w w' := by
  by_cases hL : 50 < l.length
  · have hd : decide (50 < l.length) = true := decide_eq_true hL
    go_enter Try.func3, Try.ntmps3
    go_wp2_with (fail)
    refine (Long_c _ _ _ _).mono ?_
    rintro e q1 ⟨rfl, rfl⟩
    rw [hd]
    go_wp2_with (fail)
    refine (known_c _).mono ?_
    rintro e w2 ⟨rfl, hb2⟩
    have hk2 := hb2
    go_wp2_with (fail)
    go_ret
    exact ⟨rfl, hk2⟩
  · have hd : decide (50 < l.length) = false := decide_eq_false hL
    have HS := fun w hr => Lib.hid (Shares_c A l cap w (by omega) hr)
    have HS2 := fun w hr => Lib.hid (rShares_c A l cap w (by omega) hr)
    have HT := fun w hr => Lib.hid (Total_c A l cap w (by omega) hr)
    have HT2 := fun w hr => Lib.hid (rTotal_c A l cap w (by omega) hr)
    have HV := fun w hr => Lib.hid (Validate_c A l cap w (by omega) hr)
    have HV2 := fun w hr => Lib.hid (rValidate_c A l cap w (by omega) hr)
    have HLen : Hid ((shrL l).length ≤ 50) := by have := shrL_len l; show _ ≤ _; omega
    have HF := Lib.hid (fun k (hk : k < (shrL l).length) => @share_fair l k hk)
    generalize shrL l = L at *
    generalize totG l = t at *
    generalize valE l = z at *
    go_enter Try.func3, Try.ntmps3
    go_wp2_with (fail)
    refine (Long_c _ _ _ _).mono ?_
    rintro e q1 ⟨rfl, rfl⟩
    rw [hd]
    go_wp2_with (fail)
    refine ((HS _ hr).out).mono ?_
    rintro e w2 ⟨A1, c1, rfl, ra0, hb2⟩
    have hk2 := hb2
    go_wp2_with (fail)
    refine ((HS2 _ (hr.later hk2)).out).mono ?_
    rintro e w3 ⟨A2, c2, rfl, rb0, hb3⟩
    have hk3 := bl_call hk2 hb3
    have ra3 := ra0.later hb3
    clear hk2 ra0
    go_wp2_with (fail)
    refine ((HT _ (hr.later hk3)).out).mono ?_
    rintro e w4 ⟨rfl, hb4⟩
    have hk4 := bl_call hk3 hb4
    have ra4 := ra3.later hb4
    have rb4 := rb0.later hb4
    clear hk3 ra3 rb0
    have hn5 := bl_alloc (Below.refl w4.heap.size w4) (.cells #[.int .i64 t.1, .int .i64 t.2] 30)
    have y5 : Bx (w4.alloc (.cells #[.int .i64 t.1, .int .i64 t.2] 30)) w4.heap.size 30 #[.int .i64 t.1, .int .i64 t.2] := Bx.new w4 _ _
    have hk5 := bl_call hk4 hn5
    have ra5 := ra4.later hn5
    have rb5 := rb4.later hn5
    clear hk4 ra4 rb4
    clear hn5
    obtain ⟨ft0, ft1, _, _⟩ := y5.two
    go_wp2_with (fail)
    refine ((HT2 _ (hr.later hk5)).out).mono ?_
    rintro e w6 ⟨rfl, hb6⟩
    have hk6 := bl_call hk5 hb6
    have xt6 := y5.call hb6
    have ra6 := ra5.later hb6
    have rb6 := rb5.later hb6
    clear ft0 ft1 hk5 y5 ra5 rb5
    obtain ⟨ft0, ft1, _, _⟩ := xt6.two
    have hn7 := bl_alloc (Below.refl w6.heap.size w6) (.cells #[.int .i64 t.1, .int .i64 t.2] 30)
    have y7 : Bx (w6.alloc (.cells #[.int .i64 t.1, .int .i64 t.2] 30)) w6.heap.size 30 #[.int .i64 t.1, .int .i64 t.2] := Bx.new w6 _ _
    have hk7 := bl_call hk6 hn7
    have xt7 := xt6.call hn7
    have ra7 := ra6.later hn7
    have rb7 := rb6.later hn7
    clear ft0 ft1 hk6 xt6 ra6 rb6
    clear hn7
    obtain ⟨ft0, ft1, _, _⟩ := xt7.two
    obtain ⟨fu0, fu1, _, _⟩ := y7.two
    go_wp2_with (fail)
    refine ((HV _ (hr.later hk7)).out).mono ?_
    rintro e w8 ⟨rfl, hb8⟩
    have hk8 := bl_call hk7 hb8
    have xt8 := xt7.call hb8
    have xu8 := y7.call hb8
    have ra8 := ra7.later hb8
    have rb8 := rb7.later hb8
    clear ft0 ft1 fu0 fu1 hk7 xt7 y7 ra7 rb7
    obtain ⟨ft0, ft1, _, _⟩ := xt8.two
    obtain ⟨fu0, fu1, _, _⟩ := xu8.two
    go_wp2_with (fail)
    refine ((HV2 _ (hr.later hk8)).out).mono ?_
    rintro e w9 ⟨rfl, hb9⟩
    have hk9 := bl_call hk8 hb9
    have xt9 := xt8.call hb9
    have xu9 := xu8.call hb9
    have ra9 := ra8.later hb9
    have rb9 := rb8.later hb9
    clear ft0 ft1 fu0 fu1 hk8 xt8 xu8 ra8 rb8
    obtain ⟨ft0, ft1, _, _⟩ := xt9.two
    obtain ⟨fu0, fu1, _, _⟩ := xu9.two
    go_wp2_with (fail)
    refine (sameRats_c _ _ _ _ _ _ (by have := HLen.out; omega) ra9 rb9).mono ?_
    rintro e w10 ⟨rfl, hb10⟩
    have hk10 := bl_call hk9 hb10
    have xt10 := xt9.call hb10
    have xu10 := xu9.call hb10
    have ra10 := ra9.later hb10
    have rb10 := rb9.later hb10
    clear ft0 ft1 fu0 fu1 hk9 xt9 xu9 ra9 rb9
    obtain ⟨ft0, ft1, _, _⟩ := xt10.two
    obtain ⟨fu0, fu1, _, _⟩ := xu10.two
    go_wp2_with (fail)
    clear ft0 ft1 fu0 fu1
    go_loopg [11] L.length (fun gk iv wr => ∃ k : Nat, Hid (k + gk = L.length) ∧ iv = .int .i64 (k : Int) ∧ Below w10.heap.size w10 wr)
    case atStart => exact ⟨0, by simp [Hid], rfl, Below.refl _ _⟩
    case round =>
      obtain ⟨k, HK, rfl, hb⟩ := hrel
      have hkb := bl_call hk10 hb
      have xt := xt10.call hb
      have rt := ra10.later hb
      rcases gk with _ | gi
      · obtain rfl : k = L.length := HK.out
        go_wp2_with (fail)
        refine (known_c _).mono ?_
        rintro e w91 ⟨rfl, hb91⟩
        have hk91 := bl_call hkb hb91
        clear hkb
        go_wp2_with (fail)
        go_ret
        exact ⟨rfl, hk91⟩
      · have hkL : k < L.length := by have := HK.out; omega
        have hkL' : (k : Int) < (L.length : Int) := by omega
        obtain ⟨f1, f2, f3⟩ := HF.out k hkL
        have HLe := HLen.out
        obtain ⟨b, o, rfl, hbl, c0, c1⟩ := rt.rt hkL
        have HFa := fun W => Lib.hid (fair2_c f1 W)
        have HFt := fun W => Lib.hid (fair2_c f2 W)
        have HLs := fun W => Lib.hid (lless2_c f2 f1 (by have := f3; omega) W)
        clear f1 f2 f3
        generalize L.getD k (0, 0) = p at *
        have hdr : Below wr.heap.size wr wr.drew := (Below.refl _ _).drew
        have HC := Lib.hid (fun W (hW : Below wr.heap.size wr W) => And.intro ((hW.cell (p := ⟨b, o + k * 2, none⟩) hbl).trans c0) (And.intro ((hW.cell (p := ⟨b, o + k * 2 + 1, none⟩) hbl).trans c1) (xt.call hW).two))
        clear c0 c1
        go_wp2_with (fail)
        refine wp_region_low (hdr) (by kernel_rfl) (by kernel_rfl) ?_
        repeat (first
          | go_big_quiet_skip
          | (go_big_quiet_want
             apply Exists.intro
             refine And.intro (fun W hW => ?_) ?_
             · (obtain ⟨cc0, cc1, dd0, dd1, _, _⟩ := HC.out W hW)
               go_simp
               first
                 | exact rfl
                 | (first | (with_reducible refine (HFa W).out.mono ?_; rintro e w1 ⟨rfl, hb1⟩; exact ⟨rfl, bl_call hW hb1⟩) | (with_reducible refine (HFt W).out.mono ?_; rintro e w1 ⟨rfl, hb1⟩; exact ⟨rfl, bl_call hW hb1⟩) | (with_reducible refine (HLs W).out.mono ?_; rintro e w1 ⟨rfl, hb1⟩; exact ⟨rfl, bl_call hW hb1⟩))
             try go_simp
             go_big_quiet_on))
        refine wpQuiet_nil ?_
        intro w9 hb9
        go_wp2_with (fail)
        go_roundg gi
        case rel => exact ⟨k + 1, by have := HK.out; show _ = _; omega, by go_num, bl_call hb hb9⟩
        case measure => omega
end Go.Proofs.Ytgbjglkiaoplmaa
