/- The walk of the law on traps and places. -/
import Derived.Test.YtjgpfnnokdcgoaaKnownZ
namespace Go.Proofs.Ytjgpfnnokdcgoaa
open Go.RowKit Go.Maps

set_option maxRecDepth 100000 in
set_option maxHeartbeats 4000000 in
theorem zoneTraps_walk (Z : Int) (A : Option Addr) (l : List (Int × Int)) (c : Nat) (B : Option Addr) (p : List Int) (d : Nat) (z : Int) (w : World) (_hcap : l.length ≤ c) (hcap' : p.length ≤ d) (hr : Rd w A (cellsP l)) (hs : Rd w B (ints p)) (_hz : (Lit.int .i64 z).wf = true) :
    Calls Try.prog 3 #[trapV Z A l.length c, .slice B p.length d, .int .i64 z] w fun e w' => e = .returned (.bool true) ∧ Below w.heap.size w w' := by
  have HL := fun w => Lib.hid (long_c Z A l.length c w)
  have HM := fun w => Lib.hid (many_c B p.length d w)
  have HK := fun w => Lib.hid (known_c w)
  have x0 := Bx.new w 24 #[.int .i64 Z, .slice A l.length c]
  have hb0 := bl_alloc (Below.refl w.heap.size w) (.cells #[.int .i64 Z, .slice A l.length c] 24)
  generalize hw0 : w.alloc (.cells #[.int .i64 Z, .slice A l.length c] 24) = w0 at *
  obtain ⟨c0, c1, _⟩ := x0.two
  by_cases hlong : 60 < l.length
  · rw [decide_eq_true hlong] at HL
    go_enter Try.func3, Try.ntmps3
    go_wp2_with (fail)
    refine (HL _).out.mono ?_
    rintro e w1 ⟨rfl, hb1⟩
    go_wp2_with (fail)
    refine (HK _).out.mono ?_
    rintro e w2 ⟨rfl, hb2⟩
    go_wp2_with (fail)
    go_ret
    exact ⟨rfl, bl_call hb0 (bl_call hb1 hb2)⟩
  · rw [decide_eq_false hlong] at HL
    by_cases hmany : 40 < p.length
    · rw [decide_eq_true hmany] at HM
      go_enter Try.func3, Try.ntmps3
      go_wp2_with (fail)
      refine (HL _).out.mono ?_
      rintro e w1 ⟨rfl, hb1⟩
      go_wp2_with (fail)
      refine (HM _).out.mono ?_
      rintro e w2 ⟨rfl, rfl⟩
      go_wp2_with (fail)
      refine (HK _).out.mono ?_
      rintro e w2 ⟨rfl, hb2⟩
      go_wp2_with (fail)
      go_ret
      exact ⟨rfl, bl_call hb0 (bl_call hb1 hb2)⟩
    · rw [decide_eq_false hmany] at HM
      have hlen : l.length ≤ 1000 := by omega
      have hlen' : p.length ≤ 1000 := by omega
      have H1 := fun w1 hr1 => Lib.hid (Near_c Z A l c z w1 hlen hr1)
      have H2 := fun w1 hr1 => Lib.hid (rNear_c Z A l c z w1 hlen hr1)
      have H3 := fun w1 hr1 => Lib.hid (validate_c Z A l c w1 hlen hr1)
      have H4 := fun w1 hr1 => Lib.hid (rvalidate_c Z A l c w1 hlen hr1)
      have H5 := fun w1 hr1 hs1 => Lib.hid (place_c Z A B l p c d w1 hlen hlen' hr1 hs1)
      have H6 := fun w1 hr1 hs1 => Lib.hid (rplace_c Z A B l p c d w1 hlen hlen' hcap' hr1 hs1)
      have HNl : (nearG Z l z).length ≤ 1000 := by
        rw [nearG]; split
        · rename_i h
          obtain ⟨n, rfl, _, h6⟩ := trap_nat h.1
          have := near_le l z n
          simp; omega
        · simp
      generalize nearG Z l z = N at *
      generalize nearE Z l z = e1 at *
      generalize trapE Z l = e2 at *
      generalize placeE Z l p = e3 at *
      clear hlong hmany
      go_enter Try.func3, Try.ntmps3
      go_wp2_with (fail)
      refine (HL _).out.mono ?_
      rintro e w1 ⟨rfl, hb1⟩
      go_wp2_with (fail)
      refine (HM _).out.mono ?_
      rintro e w2 ⟨rfl, rfl⟩
      clear c0 c1
      obtain ⟨c0, c1, _⟩ := (x0.call hb1).two
      have hb01 := bl_call hb0 hb1
      go_wp2_with (fail)
      refine (H1 _ (hr.later hb01)).out.mono ?_
      rintro e w2 ⟨A1, c1', rfl, ho1, hb2⟩
      have hb02 := bl_call hb01 hb2
      clear c0 c1
      obtain ⟨c0, c1, _⟩ := ((x0.call hb1).call hb2).two
      go_wp2_with (fail)
      refine (H2 _ (hr.later hb02)).out.mono ?_
      rintro e w3 ⟨A2, c2', rfl, ho2, hb3⟩
      have hb03 := bl_call hb02 hb3
      have y0 := ((x0.call hb1).call hb2).call hb3
      have hr1 := (own_rd ho1).1.later hb3
      have hr2 := (own_rd ho2).1
      have HS := fun w4 (hb : Below w3.heap.size w3 w4) => Lib.hid (sameInts_c A1 A2 N N c1' c2' w4 (by omega) (hr1.later hb) (hr2.later hb))
      rw [show decide (N = N) = true by simp] at HS
      have hC : Below w3.heap.size w3 w3.drew := (Below.refl _ _).drew
      have HC := fun W (hW : Below w3.heap.size w3 W) => Lib.hid ((y0.call hW).two)
      have HR := fun W (hW : Below w3.heap.size w3 W) => Lib.hid (hr.later (bl_call hb03 hW))
      have HQ := fun W (hW : Below w3.heap.size w3 W) => Lib.hid (hs.later (bl_call hb03 hW))
      clear c0 c1 H1 H2
      go_wp2_with (fail)
      refine wp_region_low (hC) (by kernel_rfl) (by kernel_rfl) ?_
      repeat (first
        | go_big_quiet_skip
        | (go_big_quiet_want
           apply Exists.intro
           refine And.intro (fun W hW => ?_) ?_
           · (obtain ⟨c0, c1, _⟩ := (HC W hW).out)
             go_simp
             first
               | exact rfl
               | ((first | (refine (H3 W (HR W hW).out).out.mono ?_; rintro e w4 ⟨rfl, hb4⟩; exact ⟨rfl, bl_call hW hb4⟩) | (refine (H4 W (HR W hW).out).out.mono ?_; rintro e w4 ⟨rfl, hb4⟩; exact ⟨rfl, bl_call hW hb4⟩) | (refine (H5 W (HR W hW).out (HQ W hW).out).out.mono ?_; rintro e w4 ⟨rfl, hb4⟩; exact ⟨rfl, bl_call hW hb4⟩) | (refine (H6 W (HR W hW).out (HQ W hW).out).out.mono ?_; rintro e w4 ⟨rfl, hb4⟩; exact ⟨rfl, bl_call hW hb4⟩) | (refine (HS W hW).out.mono ?_; rintro e w4 ⟨rfl, hb4⟩; exact ⟨rfl, bl_call hW hb4⟩) | (refine (HK W).out.mono ?_; rintro e w4 ⟨rfl, hb4⟩; exact ⟨rfl, bl_call hW hb4⟩)))
           try go_simp
           go_big_quiet_on))
      refine wpQuiet_nil ?_
      intro w9 hb9
      go_wp2_with (fail)
      go_ret
      exact ⟨rfl, bl_call hb03 hb9⟩
end Go.Proofs.Ytjgpfnnokdcgoaa
