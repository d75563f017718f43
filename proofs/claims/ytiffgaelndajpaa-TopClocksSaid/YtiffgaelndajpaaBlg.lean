/- What waits after each unit: package clock's and the specification's. -/
import Derived.Test.YtiffgaelndajpaaEnds
import Derived.Test.YtiffgaelndajpaaBlgM
namespace Go.Proofs.Ytiffgaelndajpaa
open Go.RowKit

theorem isAmount_c (x : Int) (w : World) : Calls Try.prog 70 #[.int .i64 x] w fun e w' => e = .returned (.bool (inB x 0 60)) ∧ w = w' := by
  by_cases h1 : 0 ≤ x
  · by_cases h2 : x ≤ 60
    all_goals
      go_enter Try.func70, Try.ntmps70
      go_wp2
      go_ret
      exact ⟨ret_b (by simp [inB]; omega), rfl⟩
  · go_enter Try.func70, Try.ntmps70
    go_wp2
    go_ret
    exact ⟨ret_b (by simp [inB]; omega), rfl⟩
set_option maxRecDepth 100000 in
set_option maxHeartbeats 4000000 in
theorem Backlog_c (A : Option Addr) (p : List Int) (c : Nat) (d : Int) (w : World) (hlen : p.length ≤ 100000) (hr : Rd w A (ints p)) :
    Calls Try.prog 42 #[.slice A p.length c, .int .i64 d] w (OutR (blgL p d) (blgE p d) w) := by
  have HI := fun x w => Lib.hid (isAmount_c x w)
  by_cases h60 : 60 < p.length
  · have hE : blgE p d = 1 := by rw [blgE, if_pos h60]
    have hL : blgL p d = [] := by rw [blgL, hE]; rfl
    have h60' : (60 : Int) < (p.length : Int) := by omega
    rw [hE, hL]
    clear hE hL h60
    go_enter Try.func42, Try.ntmps42
    go_wp2_with (go_at_call 70; refine (HI _ _).out.mono ?_; rintro e w1 ⟨rfl, rfl⟩)
    go_ret2
    exact ⟨none, 0, rfl, Rd.nil _ _, Below.refl _ _⟩
  · have h60' : ¬ (60 : Int) < (p.length : Int) := by omega
    cases hd : inB d 0 60 with
    | false =>
      have hE : blgE p d = 1 := by rw [blgE, if_neg h60, hd]; rfl
      have hL : blgL p d = [] := by rw [blgL, hE]; rfl
      have HId := fun w => Lib.hid (isAmount_c d w)
      rw [hd] at HId
      rw [hE, hL]
      clear hE hL h60 hd
      go_enter Try.func42, Try.ntmps42
      go_wp2_with (go_at_call 70; refine (HId _).out.mono ?_; rintro e w1 ⟨rfl, rfl⟩)
      go_ret2
      exact ⟨none, 0, rfl, Rd.nil _ _, Below.refl _ _⟩
    | true =>
      have HId := fun w => Lib.hid (isAmount_c d w)
      rw [hd] at HId
      have hE : blgE p d = if amts p then 0 else 1 := by rw [blgE, if_neg h60, hd]; rfl
      have HE1 : Hid (amts p = true → blgE p d = 0 ∧ blgL p d = blTo p d p.length) := fun h => by
        have e : blgE p d = 0 := by rw [hE, h]; rfl
        exact ⟨e, by rw [blgL, if_pos e]⟩
      have HE2 : Hid (amts p = false → blgE p d = 1 ∧ blgL p d = []) := fun h => by
        have e : blgE p d = 1 := by rw [hE, h]; rfl
        exact ⟨e, by rw [blgL, e]; rfl⟩
      obtain ⟨d0, d1⟩ := inB_z.1 hd
      obtain ⟨cs, hmk, hcs⟩ := make_ints p.length (by omega) w
      have hcl : cs.size = p.length := by rw [hcs]; simp
      have hX0 : Bx (w.alloc (.cells cs 3)) w.heap.size 3 cs := Bx.new _ _ _
      have hbl : Below w.heap.size w (w.alloc (.cells cs 3)) := bl_alloc (Below.refl _ _) _
      have hH0 : (∃ Z : Array Value, Z.size = p.length ∧ Bx (w.alloc (.cells cs 3)) w.heap.size 3 Z ∧ ∀ t, t < (blTo p d 0).length → Z[t]? = some (.int .i64 ((blTo p d 0).getD t 0))) := ⟨cs, hcl, hX0, fun t h => by simp at h⟩
      have hH : Holds (w.alloc (.cells cs 3)) w.heap.size 3 p.length (blTo p d 0) := hH0
      have HBS := Lib.hid (blTo_succ p d)
      have HBL := Lib.hid (blTo_len p d)
      have hp60 : p.length ≤ 60 := by omega
      clear hE hd hcs hcl hX0 hH0 h60
      go_enter Try.func42, Try.ntmps42
      go_wp2_with (go_at_call 70; refine (HId _).out.mono ?_; rintro e w1 ⟨rfl, rfl⟩)
      generalize w.alloc (.cells cs 3) = w0 at *
      clear hmk
      go_loopg [6, 23] p.length (fun gk mv iv wr => ∃ k : Nat, Hid (k + gk = p.length) ∧ iv = .int .i64 (k : Int) ∧ mv = .int .i64 (blT p d k) ∧ Hid (amts (p.take k) = true) ∧ Holds wr w.heap.size 3 p.length (blTo p d k) ∧ Below w.heap.size w wr)
      case atStart => exact ⟨0, by simp [Hid], rfl, rfl, by simp [Hid, amts], hH, hbl⟩
      case round =>
        obtain ⟨k, HK, rfl, rfl, HA, hz, hb⟩ := hrel
        clear hH hbl
        rcases gk with _ | gi
        · obtain rfl : k = p.length := HK.out
          have HF := HE1.out (by have h := HA.out; rwa [List.take_length] at h)
          have HF1 := Lib.hid HF
          clear HF
          go_wp2_with (fail)
          go_ret2
          exact ⟨_, p.length, by rw [HF1.out.1, HF1.out.2, blTo_len]; rfl, by rw [HF1.out.2]; exact hz.rd, hb⟩
        · have hkl : k < p.length := by have := HK.out; omega
          have hkl' : (k : Int) < (p.length : Int) := by omega
          obtain ⟨b, o, rfl, _, hcc⟩ := (hr.later hb).at_ (k := k) (by rw [ints_length]; exact hkl)
          have hck := hcc k _ (ints_get hkl)
          have HT := Lib.hid (amts_take hkl)
          rw [HA.out, Bool.true_and] at HT
          have HNO := Lib.hid (@amts_no p k hkl)
          have HBT : Hid (blT p d (k + 1) = max 0 (blT p d k + p.getD k 0 - d)) := rfl
          have HAG : Hid (inB (p.getD k 0) 0 60 = true → 0 ≤ p.getD k 0 ∧ p.getD k 0 ≤ 60) := fun h => inB_z.1 h
          have hbr := blT_range (come := p) d0 (n := k) (fun j hj => by
            have h1 := amts_get HA.out (k := j) (by simp; omega)
            have e : (p.take k).getD j 0 = p.getD j 0 := by simp [hj]
            rwa [e] at h1) k (Nat.le_refl _)
          have HIx := fun w => Lib.hid (isAmount_c (p.getD k 0) w)
          have HBK := Lib.hid (HBL.out k)
          have HB2 := Lib.hid (HBS.out k)
          clear hcc
          generalize p.getD k 0 = x at *
          obtain ⟨r0, r1⟩ := hbr
          have r2 : blT p d k ≤ 3600 := by omega
          clear r1
          cases hx : inB x 0 60 with
          | false =>
            have HF1 := Lib.hid (HE2.out (HNO.out hx))
            rw [hx] at HIx
            clear hx HNO HT
            go_wp2_with (go_at_call 70; refine (HIx _).out.mono ?_; rintro e w1 ⟨rfl, rfl⟩)
            go_ret2
            exact ⟨none, 0, by rw [HF1.out.1, HF1.out.2]; rfl, by rw [HF1.out.2]; exact Rd.nil _ _, hb⟩
          | true =>
            obtain ⟨x0, x1⟩ := HAG.out hx
            rw [hx] at HIx HT
            obtain ⟨⟨v, hv1⟩, hv2⟩ := hz.spot (i := k) hkl
            have hput := hz.put (by rw [HBK.out]; exact hkl) (blT p d (k + 1))
            rw [HBK.out, ← HB2.out] at hput
            have hbs := bl_set hb (g := w.heap.size) (i := k) (Nat.le_refl _) (.int .i64 (blT p d (k + 1)))
            have HPB := Lib.hid (And.intro hput hbs)
            clear hx HNO hput hbs
            go_wp2_with (go_at_call 70; refine (HIx _).out.mono ?_; rintro e w1 ⟨rfl, rfl⟩)
            all_goals
              go_roundg gi
              case rel =>
                refine ⟨k + 1, by have := HK.out; show _ = _; omega, by go_num, by rw [HBT.out]; congr 1; omega, HT.out, ?_, ?_⟩
                · first
                  | (have h := HPB.out.1; rw [show blT p d (k + 1) = 0 by rw [HBT.out]; omega] at h; exact h)
                  | (have h := HPB.out.1; rw [show blT p d (k + 1) = blT p d k + x - d by rw [HBT.out]; omega] at h; exact h)
                · first
                  | (have h := HPB.out.2; rw [show blT p d (k + 1) = 0 by rw [HBT.out]; omega] at h; exact h)
                  | (have h := HPB.out.2; rw [show blT p d (k + 1) = blT p d k + x - d by rw [HBT.out]; omega] at h; exact h)
              case measure => omega
end Go.Proofs.Ytiffgaelndajpaa
