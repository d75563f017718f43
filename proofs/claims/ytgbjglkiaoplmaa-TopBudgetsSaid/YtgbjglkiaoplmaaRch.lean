/- Which choices are valid: the document's chosen. -/
import Derived.Test.YtgbjglkiaoplmaaVch
namespace Go.Proofs.Ytgbjglkiaoplmaa
open Go.RowKit

theorem diff_new {fs : List Fx} {c : List Int} {i j : Nat} (hj : j < i) (hi : i < c.length) (h : itemF fs (c.getD i 0) = itemF fs (c.getD j 0)) : diffB fs c c.length = false := by
  rcases hz : diffB fs c c.length with _ | _
  · rfl
  · exact absurd h (diffB_iff.1 hz i j hj hi)
theorem diff_all {fs : List Fx} {c : List Int} (h : ∀ i j, j < i → i < c.length → itemF fs (c.getD i 0) ≠ itemF fs (c.getD j 0)) : diffB fs c c.length = true := diffB_iff.2 h
set_option maxRecDepth 100000 in
set_option maxHeartbeats 4000000 in
theorem rchosen_c (B : Option Addr) (fs : List Fx) (cap : Nat) (C : Option Addr) (c : List Int) (cap2 : Nat) (w : World) (hlen : c.length ≤ 1000) (hlen2 : fs.length ≤ 1000) (hf : Rd w B (cellsF fs)) (hr : Rd w C (ints c)) :
    Calls Try.prog 79 #[.slice B fs.length cap, .slice C c.length cap2] w fun e w' => e = .returned (.int .i64 (choE fs c)) ∧ Below w.heap.size w w' := by
  have H1 := Lib.hid (fun k (hk : k < c.length) h => @cho_1 fs c k hk h)
  have H2 := Lib.hid (fun h => @cho_2 fs c h)
  have HO : Hid (∀ k, okK fs c k = (decide (0 ≤ c.getD k 0 ∧ c.getD k 0 < fs.length) && (decide (k = 0) || decide (c.getD (k - 1) 0 < c.getD k 0)))) := fun k => rfl
  have HIn := Lib.hid (fun k => @okK_in fs c k)
  have HDn := Lib.hid (fun i j hj hi h => @diff_new fs c i j hj hi h)
  have HDa := Lib.hid (@diff_all fs c)
  have qs : wrap64 ((fs.length : Int) - 1) = (fs.length : Int) - 1 := IntWalk.wrap64_in _ ⟨by omega, by omega⟩
  have qs2 := Lib.hid ((IntWalk.i64_left ((fs.length : Int) - 1)).trans qs)
  generalize choE fs c = E at *
  go_enter Try.func79, Try.ntmps79
  go_wp2_with (fail)
  go_loopg [5] c.length (fun gk iv wr => ∃ k : Nat, Hid (k + gk = c.length) ∧ iv = .int .i64 (k : Int) ∧ Hid (∀ j, j < k → okK fs c j = true) ∧ Below w.heap.size w wr)
  case atStart => exact ⟨0, by simp [Hid], rfl, fun j h => absurd h (by omega), Below.refl _ _⟩
  case round =>
    obtain ⟨k, HK, rfl, HP, hb⟩ := hrel
    rcases gk with _ | gi
    · obtain rfl : k = c.length := HK.out
      have HIF := Lib.hid (fun j hj => HIn.out j (HP.out j hj))
      have H2a := H2.out HP.out
      have HE0 : Hid (diffB fs c c.length = true → E = 0) := fun h => H2a.trans (if_pos h)
      have HE6 : Hid (diffB fs c c.length = false → E = 6) := fun h => H2a.trans (if_neg (by rw [h]; decide))
      clear H1 H2 HO HIn HP H2a HK
      go_wp2_with (fail)
      go_loopg [6] c.length (fun gk iv wr => ∃ i : Nat, Hid (i + gk = c.length) ∧ iv = .int .i64 (i : Int) ∧ Hid (∀ a b, b < a → a < i → itemF fs (c.getD a 0) ≠ itemF fs (c.getD b 0)) ∧ Below w.heap.size w wr)
      case atStart => exact ⟨0, by simp [Hid], rfl, fun a b _ h => absurd h (by omega), hb⟩
      case round =>
        clear hb
        obtain ⟨i, HI, rfl, HP, hb⟩ := hrel
        rcases gk with _ | gi
        · obtain rfl : i = c.length := HI.out
          have hE := Lib.hid (HE0.out (HDa.out HP.out))
          go_wp2_with (fail)
          go_ret
          exact ⟨ret_i hE.out, hb⟩
        · have hil : i < c.length := by have := HI.out; omega
          have hil' : (i : Int) < (c.length : Int) := by omega
          go_wp2_with (fail)
          go_loopg [7] i (fun gk jv wr => ∃ j : Nat, Hid (j + gk = i) ∧ jv = .int .i64 (j : Int) ∧ Hid (∀ b, b < j → itemF fs (c.getD i 0) ≠ itemF fs (c.getD b 0)) ∧ Below w.heap.size w wr)
          case atStart => exact ⟨0, by simp [Hid], rfl, fun b h => absurd h (by omega), hb⟩
          case round =>
            clear hb
            obtain ⟨j, HJ, rfl, HQ, hb⟩ := hrel
            rcases gk with _ | gq
            · obtain rfl : j = i := HJ.out
              go_wp2_with (fail)
              go_roundg gi
              case rel =>
                refine ⟨j + 1, by have := HI.out; show _ = _; omega, by go_num, fun a b h1 h2 => ?_, hb⟩
                rcases Nat.lt_or_ge a j with x | x
                · exact HP.out a b h1 x
                · obtain rfl : a = j := by omega
                  exact HQ.out b h1
              case measure => omega
            · have hji : j < i := by have := HJ.out; omega
              have hji' : (j : Int) < (i : Int) := by omega
              have hjl : j < c.length := by omega
              have hjl' : (j : Int) < (c.length : Int) := by omega
              obtain ⟨bc, oc, hC, _, c0⟩ := (hr.later hb).one hil
              obtain ⟨bc', oc', hC', _, c1⟩ := (hr.later hb).one hjl
              rw [hC] at hC'
              cases hC'
              obtain ⟨x, hx⟩ := Int.eq_ofNat_of_zero_le (HIF.out i hil).1
              obtain ⟨y, hy⟩ := Int.eq_ofNat_of_zero_le (HIF.out j hjl).1
              have hxl : x < fs.length := by have := (HIF.out i hil).2; omega
              have hyl : y < fs.length := by have := (HIF.out j hjl).2; omega
              have hxl' : (x : Int) < (fs.length : Int) := by omega
              have hyl' : (y : Int) < (fs.length : Int) := by omega
              obtain ⟨bf, of, hB, _, f0, _⟩ := (hf.later hb).fix hxl
              obtain ⟨bf', of', hB', _, g0, _⟩ := (hf.later hb).fix hyl
              rw [hB] at hB'
              cases hB'
              have hi1 : itemF fs (c.getD i 0) = (fs.getD x fx0).i := by rw [hx]; rfl
              have hi2 : itemF fs (c.getD j 0) = (fs.getD y fx0).i := by rw [hy]; rfl
              have HD6 : Hid (itemF fs (c.getD i 0) = itemF fs (c.getD j 0) → E = 6) := fun h => HE6.out (HDn.out i j hji hil h)
              have HN : Hid (itemF fs (c.getD i 0) ≠ itemF fs (c.getD j 0) → ∀ b, b < j + 1 → itemF fs (c.getD i 0) ≠ itemF fs (c.getD b 0)) := fun h b hb => by
                rcases Nat.lt_or_ge b j with z | z
                · exact HQ.out b z
                · obtain rfl : b = j := by omega
                  exact h
              rw [hi1, hi2] at HD6
              rw [hi2] at HN
              have HN2 : Hid ((fs.getD x fx0).i ≠ (fs.getD y fx0).i → ∀ b, b < j + 1 → itemF fs (c.getD i 0) ≠ itemF fs (c.getD b 0)) := fun h => HN.out (by rw [hi1]; exact h)
              rw [hx] at c0
              rw [hy] at c1
              clear hx hy hi1 hi2 HN
              generalize (fs.getD x fx0).i = u at *
              generalize (fs.getD y fx0).i = v at *
              subst hC hB
              by_cases huv : u = v
              · have hE := Lib.hid (HD6.out huv)
                have hq : (u == v) = true := by rw [beq_iff_eq]; exact huv
                clear huv
                go_wp2_with (fail)
                go_quiet (fail)
                go_wp2_with (fail)
                go_ret
                exact ⟨ret_i hE.out, below_drewN hb _⟩
              · have hN := Lib.hid (HN2.out huv)
                have hq : (u == v) = false := by rw [beq_eq_false_iff_ne]; exact huv
                clear huv
                go_wp2_with (fail)
                go_quiet (fail)
                go_wp2_with (fail)
                go_roundg gq
                case rel => exact ⟨j + 1, by have := HJ.out; show _ = _; omega, by go_num, hN.out, below_drewN hb _⟩
                case measure => omega
    · have hkl : k < c.length := by have := HK.out; omega
      have hkl' : (k : Int) < (c.length : Int) := by omega
      obtain ⟨b, o, hA, hbl, c0⟩ := (hr.later hb).one hkl
      have HOk := HO.out k
      have HE : Hid (okK fs c k = false → E = 1) := fun h => H1.out k hkl h
      have HG : Hid (okK fs c k = true → ∀ j, j < k + 1 → okK fs c j = true) := fun h j hj => by
        rcases Nat.lt_or_ge j k with x | x
        · exact HP.out j x
        · obtain rfl : j = k := by omega
          exact h
      have HW := fun W => Lib.hid (within_c (c.getD k 0) 0 ((fs.length : Int) - 1) W)
      have hin : inB (c.getD k 0) 0 ((fs.length : Int) - 1) = decide (0 ≤ c.getD k 0 ∧ c.getD k 0 < fs.length) := by
        unfold inB
        rw [Bool.eq_iff_iff, Bool.and_eq_true, decide_eq_true_eq, decide_eq_true_eq, decide_eq_true_eq]; omega
      rw [← hin] at HOk
      have hdr : Below wr.heap.size wr wr.drew := (Below.refl _ _).drew
      clear hin
      cases h1 : inB (c.getD k 0) 0 ((fs.length : Int) - 1) with
      | false =>
        have hz : okK fs c k = false := by rw [HOk, h1]; rfl
        have hE := Lib.hid (HE.out hz)
        rw [h1] at HW
        clear hz HOk h1 HE HG
        have HC := Lib.hid (fun W (hW : Below wr.heap.size wr W) => (hW.cell (p := ⟨b, o + k, none⟩) hbl).trans c0)
        generalize c.getD k 0 = x at *
        subst hA
        clear c0
        go_wp2_with (fail)
        refine wp_region_low (hdr) (by kernel_rfl) (by kernel_rfl) ?_
        repeat (first
          | go_big_quiet_skip
          | (go_big_quiet_want
             apply Exists.intro
             refine And.intro (fun W hW => ?_) ?_
             · (have e0 := HC.out W hW)
               go_simp
               first
                 | exact rfl
                 | (first | ((try rw [qs2.out]); with_reducible refine (HW W).out.mono ?_; rintro e w1 ⟨rfl, rfl⟩; exact ⟨rfl, hW⟩))
             try go_simp
             go_big_quiet_on))
        refine wpQuiet_nil ?_
        intro w9 hb9
        go_wp2_with (fail)
        go_ret
        exact ⟨ret_i hE.out, bl_call hb hb9⟩
      | true =>
        rw [h1] at HW HOk
        clear h1
        rcases Nat.eq_zero_or_pos k with rfl | hkp
        · have hz : okK fs c 0 = true := by rw [HOk]; rfl
          have hG := Lib.hid (HG.out hz)
          rw [Nat.add_zero] at c0
          clear hz HOk HE HG
          have HC := Lib.hid (fun W (hW : Below wr.heap.size wr W) => (hW.cell (p := ⟨b, o, none⟩) hbl).trans c0)
          generalize c.getD 0 0 = x at *
          subst hA
          clear c0
          go_wp2_with (fail)
          refine wp_region_low (hdr) (by kernel_rfl) (by kernel_rfl) ?_
          repeat (first
            | go_big_quiet_skip
            | (go_big_quiet_want
               apply Exists.intro
               refine And.intro (fun W hW => ?_) ?_
               · (have e0 := HC.out W hW)
                 go_simp
                 first
                   | exact rfl
                   | (first | ((try rw [qs2.out]); with_reducible refine (HW W).out.mono ?_; rintro e w1 ⟨rfl, rfl⟩; exact ⟨rfl, hW⟩))
               try go_simp
               go_big_quiet_on))
          refine wpQuiet_nil ?_
          intro w9 hb9
          go_wp2_with (fail)
          go_roundg gi
          case rel => exact ⟨0 + 1, by have := HK.out; show _ = _; omega, by go_num, hG.out, bl_call hb hb9⟩
          case measure => omega
        · obtain ⟨j, hkj⟩ : ∃ j, k = j + 1 := ⟨k - 1, by omega⟩
          have hkj2 : k - 1 = j := by omega
          have hjl : j < c.length := by omega
          have hjl' : (j : Int) < (c.length : Int) := by omega
          obtain ⟨b', o', hA', _, c1⟩ := (hr.later hb).one hjl
          rw [hA] at hA'
          cases hA'
          rw [hkj2] at HOk
          have hw : wrap64 ((k : Int) - 1) = (j : Int) := by rw [show ((k : Int) - 1) = (j : Int) by omega]; exact IntWalk.wrap64_in _ ⟨by omega, by omega⟩
          have hw3 : IntKind.i64.wrap ((k : Int) - 1) = (j : Int) := (IntWalk.i64_left _).trans hw
          have hpos : (0 : Int) < (k : Int) := by omega
          have hkn : decide (k = 0) = false := decide_eq_false (by omega)
          rw [hkn] at HOk
          replace hkj := Lib.hid hkj
          clear hkj2 hkn
          have HC := Lib.hid (fun W (hW : Below wr.heap.size wr W) => And.intro ((hW.cell (p := ⟨b, o + k, none⟩) hbl).trans c0) ((hW.cell (p := ⟨b, o + j, none⟩) hbl).trans c1))
          by_cases h3 : c.getD j 0 < c.getD k 0
          · have hz : okK fs c k = true := by rw [HOk, decide_eq_true h3]; simp
            have hG := Lib.hid (HG.out hz)
            have h3' : ¬ c.getD k 0 ≤ c.getD j 0 := by omega
            clear hz HOk h3 HE HG c0 c1
            generalize c.getD k 0 = x at *
            generalize c.getD j 0 = y at *
            subst hA
            go_wp2_with (fail)
            refine wp_region_low (hdr) (by kernel_rfl) (by kernel_rfl) ?_
            repeat (first
              | go_big_quiet_skip
              | (go_big_quiet_want
                 apply Exists.intro
                 refine And.intro (fun W hW => ?_) ?_
                 · (obtain ⟨e0, e1⟩ := HC.out W hW)
                   go_simp
                   first
                     | exact rfl
                     | (first | ((try rw [qs2.out]); with_reducible refine (HW W).out.mono ?_; rintro e w1 ⟨rfl, rfl⟩; exact ⟨rfl, hW⟩))
                 try go_simp
                 go_big_quiet_on))
            refine wpQuiet_nil ?_
            intro w9 hb9
            go_wp2_with (fail)
            go_roundg gi
            case rel => exact ⟨k + 1, by have := HK.out; show _ = _; omega, by go_num, hG.out, bl_call hb hb9⟩
            case measure => omega
          · have hz : okK fs c k = false := by rw [HOk, decide_eq_false h3]; simp
            have hE := Lib.hid (HE.out hz)
            have h3' : c.getD k 0 ≤ c.getD j 0 := by omega
            clear hz HOk h3 HE HG c0 c1
            generalize c.getD k 0 = x at *
            generalize c.getD j 0 = y at *
            subst hA
            go_wp2_with (fail)
            refine wp_region_low (hdr) (by kernel_rfl) (by kernel_rfl) ?_
            repeat (first
              | go_big_quiet_skip
              | (go_big_quiet_want
                 apply Exists.intro
                 refine And.intro (fun W hW => ?_) ?_
                 · (obtain ⟨e0, e1⟩ := HC.out W hW)
                   go_simp
                   first
                     | exact rfl
                     | (first | ((try rw [qs2.out]); with_reducible refine (HW W).out.mono ?_; rintro e w1 ⟨rfl, rfl⟩; exact ⟨rfl, hW⟩))
                 try go_simp
                 go_big_quiet_on))
            refine wpQuiet_nil ?_
            intro w9 hb9
            go_wp2_with (fail)
            go_ret
            exact ⟨ret_i hE.out, bl_call hb hb9⟩
end Go.Proofs.Ytgbjglkiaoplmaa
