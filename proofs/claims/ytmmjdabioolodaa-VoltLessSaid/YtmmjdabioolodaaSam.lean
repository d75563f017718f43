/- Whether two tables are the same. -/
import Derived.Test.YtmmjdabioolodaaFld
namespace Go.Proofs.Ytmmjdabioolodaa
open Go.RowKit

def sameTo (p q : List (List Int)) (k : Nat) : Bool := allTo (fun i => decide (p.getD i [] = q.getD i [])) k
theorem same_all {p q : List (List Int)} (hl : p.length = q.length) (h : sameTo p q p.length = true) : decide (p = q) = true := by
  refine decide_eq_true (List.ext_getElem hl fun i h1 h2 => ?_)
  have := allTo_iff.1 h i h1
  simpa [h1, h2] using this
theorem same_not {p q : List (List Int)} {k : Nat} (h : ¬ p.getD k [] = q.getD k []) : decide (p = q) = false := decide_eq_false fun e => h (by rw [e])
set_option maxRecDepth 100000 in
set_option maxHeartbeats 2000000 in
theorem sameTables_c (A B : Option Addr) (R S : Rows) (p q : List (List Int)) (cap cap' : Nat) (w : World) (hlen : p.length ≤ 9223372036854775806) (hrow : ∀ k, k < p.length → (p.getD k []).length ≤ 9223372036854775806) (hr : RT w A R p) (hq : RT w B S q) :
    Calls Try.prog 43 #[.slice A p.length cap, .slice B q.length cap'] w fun e w' => e = .returned (.bool (decide (p = q))) ∧ Below w.heap.size w w' := by
  by_cases hl : p.length = q.length
  · have hne : ((p.length : Int) != (q.length : Int)) = false := by simp [hl]
    have HL := Lib.hid hl
    have HA : Hid (sameTo p q p.length = true → decide (p = q) = true) := same_all hl
    have HN : Hid (∀ k, decide (p.getD k [] = q.getD k []) = false → decide (p = q) = false) := fun k h => same_not (of_decide_eq_false h)
    have HS : Hid (∀ k, sameTo p q k = true → decide (p.getD k [] = q.getD k []) = true → sameTo p q (k + 1) = true) := fun k h1 h2 => by unfold sameTo at h1 ⊢; rw [allTo, h1, h2]; rfl
    have H0 : Hid (sameTo p q 0 = true) := rfl
    have HI := fun k (hk : k < p.length) (hk' : k < q.length) w1 (hb : Below w.heap.size w w1) => Lib.hid (sameInts_c (R k).1 (S k).1 (p.getD k []) (q.getD k []) (R k).2 (S k).2 w1 (hrow k hk) ((hr.row k hk).later hb) ((hq.row k hk').later hb))
    generalize decide (p = q) = res at *
    clear hl hrow
    go_enter Try.func43, Try.ntmps43
    go_wp2_with (fail)
    go_loopg [5] p.length (fun gk iv wr => ∃ k : Nat, Hid (k + gk = p.length) ∧ iv = .int .i64 (k : Int) ∧ Hid (sameTo p q k = true) ∧ Below w.heap.size w wr)
    case atStart => exact ⟨0, by simp [Hid], rfl, H0, Below.refl _ _⟩
    case round =>
      obtain ⟨k, HK, rfl, hall, hb⟩ := hrel
      rcases gk with _ | gi
      · obtain rfl : k = p.length := HK.out
        go_wp2_with (fail)
        go_ret
        exact ⟨ret_b (by rw [HA.out hall.out]), hb⟩
      · have hlt : k < p.length := by have := HK.out; omega
        have hlt' : (k : Int) < (p.length : Int) := by omega
        have hltq : k < q.length := by rw [← HL.out]; exact hlt
        have hltq' : (k : Int) < (q.length : Int) := by omega
        obtain ⟨b1, o1, rfl, _, F1⟩ := hr.all_ (by omega)
        obtain ⟨b2, o2, rfl, _, F2⟩ := hq.all_ (by omega)
        have G1 : Hid (∀ w1, Below w.heap.size w w1 → w1.cell? ⟨b1, o1 + k, none⟩ = some (.slice (R k).1 (p.getD k []).length (R k).2)) := fun w1 hw => F1 w1 hw k hlt
        have G2 : Hid (∀ w1, Below w.heap.size w w1 → w1.cell? ⟨b2, o2 + k, none⟩ = some (.slice (S k).1 (q.getD k []).length (S k).2)) := fun w1 hw => F2 w1 hw k hltq
        have HIk := HI k hlt hltq
        have HNk := Lib.hid (HN.out k)
        have HSk := Lib.hid (HS.out k hall.out)
        have hdr : Below w.heap.size w wr.drew := hb.drew
        have z1 := G1.out wr hb
        have z2 := G2.out wr hb
        generalize decide (p.getD k [] = q.getD k []) = v at *
        generalize p.getD k [] = x at *
        generalize q.getD k [] = y at *
        clear F1 F2
        cases v with
        | true =>
          go_wp2_with (fail)
          refine wp_region_low (hdr) (by kernel_rfl) (by kernel_rfl) ?_
          repeat (first
            | go_big_quiet_skip
            | (go_big_quiet_want
               apply Exists.intro
               refine And.intro (fun W hW => ?_) ?_
               · (have z1 := G1.out W hW; have z2 := G2.out W hW)
                 go_simp
                 first
                   | exact rfl
                   | (refine (HIk W hW).out.mono ?_; rintro e w1 ⟨rfl, hb1⟩; exact ⟨rfl, hW.trans (hb1.mono hW.size)⟩)
               try go_simp
               go_big_quiet_on))
          refine wpQuiet_nil ?_
          intro w9 hb9
          go_wp2_with (fail)
          go_roundg gi
          case rel => exact ⟨k + 1, by have := HK.out; show _ = _; omega, by go_num, HSk.out trivial, hb9⟩
          case measure => omega
        | false =>
          go_wp2_with (fail)
          refine wp_region_low (hdr) (by kernel_rfl) (by kernel_rfl) ?_
          repeat (first
            | go_big_quiet_skip
            | (go_big_quiet_want
               apply Exists.intro
               refine And.intro (fun W hW => ?_) ?_
               · (have z1 := G1.out W hW; have z2 := G2.out W hW)
                 go_simp
                 first
                   | exact rfl
                   | (refine (HIk W hW).out.mono ?_; rintro e w1 ⟨rfl, hb1⟩; exact ⟨rfl, hW.trans (hb1.mono hW.size)⟩)
               try go_simp
               go_big_quiet_on))
          refine wpQuiet_nil ?_
          intro w9 hb9
          go_wp2_with (fail)
          go_ret
          exact ⟨ret_b (by rw [HNk.out trivial]), hb9⟩
  · have hne : ((p.length : Int) != (q.length : Int)) = true := by simp; omega
    rw [decide_eq_false (fun e => hl (by rw [e]))]
    clear hl
    go_enter Try.func43, Try.ntmps43
    go_wp2_with (fail)
    go_ret
    exact ⟨rfl, Below.refl _ _⟩
end Go.Proofs.Ytmmjdabioolodaa
