/- The first pair that clashes, whether readings agree: the specification's. -/
import Derived.Test.YtbbhaongakmhpaaRval
import Derived.Test.YtbbhaongakmhpaaAgr
namespace Go.Proofs.Ytbbhaongakmhpaa
open Go.RowKit

set_option maxHeartbeats 1000000 in
theorem rclash_c (r t l h t' l' h' : Int) (w : World) (r0 : 0 ≤ r) (r9 : r ≤ 9) (ha : Fit1 t l h) (hb : Fit1 t' l' h') :
    Calls Try.prog 66 #[.agg #[.int .i64 t, .int .i64 l, .int .i64 h], .agg #[.int .i64 t', .int .i64 l', .int .i64 h'], .int .i64 r] w fun e w' => e = .returned (.bool (clashB r (t, l, h) (t', l', h'))) ∧ Below w.heap.size w w' := by
  obtain ⟨a1, a2, a3, a4, a5, a6⟩ := ha
  obtain ⟨b1, b2, b3, b4, b5, b6⟩ := hb
  have HD := fun w => Lib.hid (far_c t t' w ⟨by omega, by omega⟩ ⟨by omega, by omega⟩)
  have hw1 : wrap64 (r * farI t t') = r * farI t t' := way_wrap r0 r9 a1 (by omega) b1 (by omega)
  have hw2 : wrap64 (l - h') = l - h' := IntWalk.wrap64_in _ ⟨by omega, by omega⟩
  have hw3 : wrap64 (l' - h) = l' - h := IntWalk.wrap64_in _ ⟨by omega, by omega⟩
  have hx2 : IntKind.i64.wrap (l - h') = l - h' := by rw [IntWalk.i64_left]; exact hw2
  have hx3 : IntKind.i64.wrap (l' - h) = l' - h := by rw [IntWalk.i64_left]; exact hw3
  have HC : Hid (clashB r (t, l, h) (t', l', h') = (decide (r * farI t t' < l - h') || decide (r * farI t t' < l' - h))) := rfl
  generalize clashB r (t, l, h) (t', l', h') = res at HC
  generalize farI t t' = f at *
  have hx1 : IntKind.i64.wrap (r * f) = r * f := by rw [IntWalk.i64_left]; exact hw1
  have hb0 := bl_alloc (bl_alloc (Below.refl w.heap.size w) (.cells #[.int .i64 t, .int .i64 l, .int .i64 h] 55)) (.cells #[.int .i64 t', .int .i64 l', .int .i64 h'] 55)
  by_cases c1 : r * f < l - h'
  · have HN : Hid (res = true) := by show _ = _; rw [HC.out, decide_eq_true c1, Bool.true_or]
    clear HC
    go_enter Try.func66, Try.ntmps66
    go_wp2_with (go_at_call 69; refine (HD _).out.mono ?_; rintro e w1 ⟨rfl, rfl⟩)
    go_ret
    exact ⟨ret_b HN.out, hb0⟩
  · by_cases c2 : r * f < l' - h
    · have HN : Hid (res = true) := by show _ = _; rw [HC.out, decide_eq_true c2, Bool.or_true]
      clear HC
      go_enter Try.func66, Try.ntmps66
      go_wp2_with (go_at_call 69; refine (HD _).out.mono ?_; rintro e w1 ⟨rfl, rfl⟩)
      go_ret
      exact ⟨ret_b HN.out, hb0⟩
    · have HN : Hid (res = false) := by show _ = _; rw [HC.out, decide_eq_false c2, decide_eq_false c1]; rfl
      clear HC
      go_enter Try.func66, Try.ntmps66
      go_wp2_with (go_at_call 69; refine (HD _).out.mono ?_; rintro e w1 ⟨rfl, rfl⟩)
      go_ret
      exact ⟨ret_b (by rw [HN.out]; simp; omega), hb0⟩
set_option maxRecDepth 100000 in
set_option maxHeartbeats 4000000 in
theorem pair_c (A : Option Addr) (l : List T3) (cap : Nat) (r : Int) (w : World) (hlen : l.length ≤ 1000) (hf : Fit l r) (hr : Rd w A (cellsT l)) :
    Calls Try.prog 60 #[.slice A l.length cap, .int .i64 r] w fun e w' => e = .returned (pairT (pairO l r)) ∧ Below w.heap.size w w' := by
  have HF := Lib.hid hf
  clear hf
  have HP : Hid (pairO l r = pairF (cl l r) l.length l.length 0) := rfl
  generalize pairO l r = res at HP
  go_enter Try.func60, Try.ntmps60
  go_wp2_with (fail)
  go_loopg [7] l.length (fun gk iv wr => ∃ i : Nat, Hid (i + gk = l.length) ∧ iv = .int .i64 (i : Int) ∧ Hid (res = pairF (cl l r) l.length gk i) ∧ Below w.heap.size w wr)
  case atStart => exact ⟨0, by simp [Hid], rfl, HP, Below.refl _ _⟩
  case round =>
    obtain ⟨i, HK, rfl, HR, hb⟩ := hrel
    rcases gk with _ | gi
    · obtain rfl : i = l.length := HK.out
      go_wp2_with (fail)
      go_ret3
      refine ⟨?_, hb⟩
      have := HR.out
      rw [this]
      rfl
    · have hlt : i < l.length := by have := HK.out; omega
      have hlt' : (i : Int) < (l.length : Int) := by omega
      have HR2 : Hid (res = pairR (cl l r) l.length gi i (rowF (cl l r i) (l.length - (i + 1)) (i + 1))) := by show _ = _; rw [HR.out, pairF_row]
      clear HR
      go_wp2_with (fail)
      go_loopg [8] (l.length - (i + 1)) (fun g2 jv wr2 => ∃ j : Nat, Hid (j + g2 = l.length) ∧ Hid (i < j) ∧ jv = .int .i64 (j : Int) ∧ Hid (res = pairR (cl l r) l.length gi i (rowF (cl l r i) g2 j)) ∧ Below w.heap.size w wr2)
      case atStart => exact ⟨i + 1, by show _ = _; omega, by show _ < _; omega, by go_num, HR2, hb⟩
      case round =>
        obtain ⟨j, HJ, HIJ, rfl, HR3, hb2⟩ := hrel
        rcases gk with _ | gj
        · obtain rfl : j = l.length := HJ.out
          have HN : Hid (res = pairF (cl l r) l.length gi (i + 1)) := HR3.out
          clear HR3 HR2
          go_wp2_with (fail)
          go_roundg gi
          case rel => exact ⟨i + 1, by have := HK.out; show _ = _; omega, by go_num, HN, hb2⟩
          case measure => omega
        · have hltj : j < l.length := by have := HJ.out; omega
          have hltj' : (j : Int) < (l.length : Int) := by omega
          obtain ⟨H1, H2⟩ := row_go HR3.out
          replace H1 := Lib.hid H1
          replace H2 := Lib.hid H2
          clear HR3
          obtain ⟨b, o, rfl, hbl, ⟨c0, c1, c2⟩, d0, d1, d2⟩ := (hr.later hb2).tri2 hlt hltj
          have hfa := HF.out.one hlt
          have hfb := HF.out.one hltj
          have HCC := Lib.hid (fun w => rclash_c r _ _ _ _ _ _ w HF.out.r0 HF.out.r1 hfa hfb)
          clear hfa hfb
          unfold tm lw hg at HCC
          have HE : Hid (clashB r ((l.getD i t0).1, (l.getD i t0).2.1, (l.getD i t0).2.2) ((l.getD j t0).1, (l.getD j t0).2.1, (l.getD j t0).2.2) = cl l r i j) := rfl
          have HCL : Hid (∀ w1, Below wr.heap.size wr w1 → (w1.cell? ⟨b, o + i * 3, none⟩ = some (.int .i64 (l.getD i t0).1) ∧ w1.cell? ⟨b, o + i * 3 + 1, none⟩ = some (.int .i64 (l.getD i t0).2.1) ∧ w1.cell? ⟨b, o + i * 3 + 2, none⟩ = some (.int .i64 (l.getD i t0).2.2)) ∧ (w1.cell? ⟨b, o + j * 3, none⟩ = some (.int .i64 (l.getD j t0).1) ∧ w1.cell? ⟨b, o + j * 3 + 1, none⟩ = some (.int .i64 (l.getD j t0).2.1) ∧ w1.cell? ⟨b, o + j * 3 + 2, none⟩ = some (.int .i64 (l.getD j t0).2.2))) := fun w1 hw => by
            have hh : ∀ j, w1.cell? ⟨b, j, none⟩ = wr.cell? ⟨b, j, none⟩ := fun j => hw.cell (p := ⟨b, j, none⟩) hbl
            exact ⟨⟨by rw [hh]; exact c0, by rw [hh]; exact c1, by rw [hh]; exact c2⟩, by rw [hh]; exact d0, by rw [hh]; exact d1, by rw [hh]; exact d2⟩
          clear c0 c1 c2 d0 d1 d2
          generalize l.getD i t0 = g1 at HCC HCL HE
          generalize l.getD j t0 = g2 at HCC HCL HE
          obtain ⟨gt, gl, gh⟩ := g1
          obtain ⟨gt', gl', gh'⟩ := g2
          simp only [] at HCC HCL HE
          generalize clashB r (gt, gl, gh) (gt', gl', gh') = v at HCC HE
          have hbW : Below wr.heap.size wr wr.drew := (Below.refl _ _).drew
          go_wp2_with (fail)
          rcases v with _ | _
          · have HN := Lib.hid (H2.out HE.out.symm)
            clear H1 H2 HE
            refine wp_region_low (hbW) (by kernel_rfl) (by kernel_rfl) ?_
            repeat (first
              | go_big_quiet_skip
              | (go_big_quiet_want
                 apply Exists.intro
                 refine And.intro (fun W hW => ?_) ?_
                 · (obtain ⟨⟨z0, z1, z2⟩, z3, z4, z5⟩ := HCL.out W hW)
                   go_simp
                   first
                     | exact rfl
                     | (refine (HCC.out W).mono ?_; rintro e w1 ⟨rfl, hb1⟩; exact ⟨rfl, bl_call hW hb1⟩)
                 try go_simp
                 go_big_quiet_on))
            refine wpQuiet_nil ?_
            intro w9 hb9
            go_wp2_with (fail)
            go_roundg gj
            case rel => exact ⟨j + 1, by have := HJ.out; show _ = _; omega, by have := HIJ.out; show _ < _; omega, by go_num, HN, bl_call hb2 hb9⟩
            case measure => omega
          · have HN := Lib.hid (H1.out HE.out.symm)
            clear H1 H2 HE
            refine wp_region_low (hbW) (by kernel_rfl) (by kernel_rfl) ?_
            repeat (first
              | go_big_quiet_skip
              | (go_big_quiet_want
                 apply Exists.intro
                 refine And.intro (fun W hW => ?_) ?_
                 · (obtain ⟨⟨z0, z1, z2⟩, z3, z4, z5⟩ := HCL.out W hW)
                   go_simp
                   first
                     | exact rfl
                     | (refine (HCC.out W).mono ?_; rintro e w1 ⟨rfl, hb1⟩; exact ⟨rfl, bl_call hW hb1⟩)
                 try go_simp
                 go_big_quiet_on))
            refine wpQuiet_nil ?_
            intro w9 hb9
            go_wp2_with (fail)
            go_ret3
            refine ⟨?_, bl_call hb2 hb9⟩
            rw [HN.out]
            rfl
end Go.Proofs.Ytbbhaongakmhpaa
