/- The smoothest one of courses: slices.MinFunc with package volt's comparison. -/
import Derived.Test.YtmmjdabioolodaaCrs
namespace Go.Proofs.Ytmmjdabioolodaa
open Go.RowKit

def cmpI (a b : Int) : Int := if a < b then -1 else if b < a then 1 else 0
theorem isNaN_c (a : Int) (w : World) : Calls Try.prog 100 #[.int .i64 a] w fun e w' => e = .returned (.bool false) ∧ w = w' := by
  have h : (a != a) = false := by simp
  go_enter Try.func100, Try.ntmps100
  go_wp2
  go_ret
  exact ⟨ret_b (by simp), rfl⟩
theorem compare_c (a b : Int) (w : World) : Calls Try.prog 97 #[.int .i64 a, .int .i64 b] w fun e w' => e = .returned (.int .i64 (cmpI a b)) ∧ w = w' := by
  by_cases h1 : a < b
  · have hE : cmpI a b = -1 := by unfold cmpI; rw [if_pos h1]
    rw [hE]
    go_enter Try.func97, Try.ntmps97
    go_wp2_with (go_at_call 100; refine (isNaN_c _ _).mono ?_; rintro e w' ⟨rfl, rfl⟩)
    go_ret
    exact ⟨rfl, rfl⟩
  · by_cases h2 : b < a
    · have hE : cmpI a b = 1 := by unfold cmpI; rw [if_neg h1, if_pos h2]
      rw [hE]
      go_enter Try.func97, Try.ntmps97
      go_wp2_with (go_at_call 100; refine (isNaN_c _ _).mono ?_; rintro e w' ⟨rfl, rfl⟩)
      go_ret
      exact ⟨rfl, rfl⟩
    · have hE : cmpI a b = 0 := by unfold cmpI; rw [if_neg h1, if_neg h2]
      rw [hE]
      go_enter Try.func97, Try.ntmps97
      go_wp2_with (go_at_call 100; refine (isNaN_c _ _).mono ?_; rintro e w' ⟨rfl, rfl⟩)
      go_ret
      exact ⟨rfl, rfl⟩
set_option maxHeartbeats 1000000 in
theorem smc_c (A B : Option Addr) (n c m d : Nat) (a b : Int) (w : World) :
    Calls Try.prog 96 #[.agg #[.slice A n c, .int .i64 a], .agg #[.slice B m d, .int .i64 b]] w fun e w' => e = .returned (.int .i64 (cmpI a b)) ∧ Below w.heap.size w w' := by
  have hb0 := bl_alloc (bl_alloc (Below.refl w.heap.size w) (.cells #[.slice A n c, .int .i64 a] 92)) (.cells #[.slice B m d, .int .i64 b] 92)
  have x0 : Bx ((w.alloc (.cells #[.slice A n c, .int .i64 a] 92)).alloc (.cells #[.slice B m d, .int .i64 b] 92)) w.heap.size 92 #[.slice A n c, .int .i64 a] := (Bx.newAt rfl).alloc _
  have x1 : Bx ((w.alloc (.cells #[.slice A n c, .int .i64 a] 92)).alloc (.cells #[.slice B m d, .int .i64 b] 92)) (w.heap.size + 1) 92 #[.slice B m d, .int .i64 b] := Bx.newAt (by simp)
  obtain ⟨_, y0, _, _⟩ := x0.two
  obtain ⟨_, y1, _, _⟩ := x1.two
  go_enter Try.func96, Try.ntmps96
  go_wp2_with (fail)
  refine (compare_c _ _ _).mono ?_
  rintro e w1 ⟨rfl, rfl⟩
  go_wp2_with (fail)
  go_ret
  exact ⟨rfl, hb0⟩
theorem minTo_succ (cs : List Crs) (k : Nat) : minTo cs (k + 1) = if (cs.getD (k + 1) crsD).2 < (minTo cs k).2 then cs.getD (k + 1) crsD else minTo cs k := rfl
/-- Which one of the first k + 1 it is. -/
def minI (cs : List Crs) : Nat → Nat
  | 0 => 0
  | k + 1 => if (cs.getD (k + 1) crsD).2 < (minTo cs k).2 then k + 1 else minI cs k
theorem minI_ok {cs : List Crs} : ∀ k, minI cs k ≤ k ∧ minTo cs k = cs.getD (minI cs k) crsD
  | 0 => ⟨Nat.le_refl _, rfl⟩
  | k + 1 => by
    obtain ⟨h1, h2⟩ := minI_ok (cs := cs) k
    rw [minTo_succ, minI]
    split
    · exact ⟨Nat.le_refl _, rfl⟩
    · exact ⟨by omega, h2⟩
/-- The smoothest course, with its steps where they lay. -/
def OutM (V : Rows) (cs : List Crs) (w : World) (e : Ending) (w' : World) : Prop :=
  e = .returned (.agg #[.slice (V (minI cs (cs.length - 1))).1 (minL cs).1.length (V (minI cs (cs.length - 1))).2, .int .i64 (minL cs).2]) ∧ Below w.heap.size w w'
set_option maxRecDepth 100000 in
set_option maxHeartbeats 4000000 in
theorem minFunc_c (A : Option Addr) (V : Rows) (S : Nat → Rows) (cs : List Crs) (cap : Nat) (w : World) (hp : 0 < cs.length) (hlen : cs.length ≤ 1000) (hr : CT w A V S cs) :
    Calls Try.prog 95 #[.slice A cs.length cap, .func (.func 96) #[] #[]] w (OutM V cs w) := by
  obtain ⟨b, o, rfl, hbl, HC⟩ := hr.all_ hp
  replace HC := Lib.hid HC
  have HMS := Lib.hid (minTo_succ cs)
  have HM0 : Hid (minTo cs 0 = cs.getD 0 crsD) := rfl
  have HFIN : Hid (∀ w', Below w.heap.size w w' → OutM V cs w (.returned (.agg #[.slice (V (minI cs (cs.length - 1))).1 (minTo cs (cs.length - 1)).1.length (V (minI cs (cs.length - 1))).2, .int .i64 (minTo cs (cs.length - 1)).2])) w') := fun w' h => ⟨rfl, h⟩
  generalize OutM V cs w = FO at HFIN ⊢
  have hx0 : Bx (w.alloc (.cells #[.slice none 0 0, .int .i64 0] 92)) w.heap.size 92 #[.slice none 0 0, .int .i64 0] := Bx.new w _ _
  have hb0 := bl_alloc (Below.refl w.heap.size w) (.cells #[.slice none 0 0, .int .i64 0] 92)
  obtain ⟨d1, d2⟩ := HC.out _ hb0 0 hp
  rw [Nat.zero_mul, Nat.add_zero] at d1 d2
  have hpp : (0 : Int) < (cs.length : Int) := by omega
  have hnl : ¬ (cs.length : Int) < 1 := by omega
  have hnl2 : ¬ cs.length < 1 := by omega
  have HV0 : Hid (minI cs 0 = 0) := rfl
  have HMI : Hid (∀ k, minI cs (k + 1) = if (cs.getD (k + 1) crsD).2 < (minTo cs k).2 then k + 1 else minI cs k) := fun k => rfl
  have hx5 : Bx ((w.alloc (.cells #[.slice none 0 0, .int .i64 0] 92)).alloc (.cells #[.slice (V 0).1 (cs.getD 0 crsD).1.length (V 0).2, .int .i64 (cs.getD 0 crsD).2] 92)) (w.heap.size + 1) 92 #[.slice (V 0).1 (cs.getD 0 crsD).1.length (V 0).2, .int .i64 (cs.getD 0 crsD).2] := Bx.newAt (by simp)
  have hx4 := hx0.alloc (.cells #[.slice (V 0).1 (cs.getD 0 crsD).1.length (V 0).2, .int .i64 (cs.getD 0 crsD).2] 92)
  have hb5 := bl_alloc hb0 (.cells #[.slice (V 0).1 (cs.getD 0 crsD).1.length (V 0).2, .int .i64 (cs.getD 0 crsD).2] 92)
  generalize cs.getD 0 crsD = c0 at *
  generalize hm0 : c0.1.length = m0 at *
  have HL0 := Lib.hid hm0
  clear hm0
  go_enter Try.func95, Try.ntmps95
  go_wp2_with (fail)
  clear d1 d2 hx0 hb0
  generalize (w.alloc (.cells #[.slice none 0 0, .int .i64 0] 92)).alloc (.cells #[.slice (V 0).1 m0 (V 0).2, .int .i64 c0.2] 92) = w0 at *
  go_loopg [6] (cs.length - 1) (fun gk iv wr => ∃ q : Nat, Hid (q + gk = cs.length) ∧ 1 ≤ q ∧ iv = .int .i64 (q : Int) ∧ Bx wr w.heap.size 92 #[.slice none 0 0, .int .i64 0] ∧ Bx wr (w.heap.size + 1) 92 #[.slice (V (minI cs (q - 1))).1 (minTo cs (q - 1)).1.length (V (minI cs (q - 1))).2, .int .i64 (minTo cs (q - 1)).2] ∧ Below w.heap.size w wr)
  case atStart => exact ⟨1, by show _ = _; omega, Nat.le_refl _, rfl, hx4, by rw [show 1 - 1 = 0 from rfl, HV0.out, HM0.out, HL0.out]; exact hx5, hb5⟩
  case round =>
    clear hx4 hx5 hb5
    obtain ⟨q, HK, hq1, rfl, hx4, hx5, hb⟩ := hrel
    have hqq : q - 1 + 1 = q := by omega
    have HMK0 := HMS.out (q - 1)
    have HIK0 := HMI.out (q - 1)
    rw [hqq] at HMK0 HIK0
    obtain ⟨k, hk0⟩ : ∃ k, k = q - 1 := ⟨_, rfl⟩
    rw [← hk0] at hx5 HMK0 HIK0
    have HK0 := Lib.hid hk0
    clear hqq hk0
    rcases gk with _ | gi
    · have hk : k = cs.length - 1 := by have := HK.out; have := HK0.out; omega
      have hge : ¬ (q : Int) < (cs.length : Int) := by have := HK.out; omega
      have HF2 : Hid (∀ w', Below w.heap.size w w' → FO (.returned (.agg #[.slice (V (minI cs k)).1 (minTo cs k).1.length (V (minI cs k)).2, .int .i64 (minTo cs k).2])) w') := fun w' h => by rw [hk]; exact HFIN.out w' h
      clear hk
      generalize (minTo cs k).1.length = m at *
      generalize (minTo cs k).2 = j at *
      generalize minI cs k = mi at *
      obtain ⟨y0, y1, z0, z1⟩ := hx4.two
      obtain ⟨a0, a1, _, _⟩ := hx5.two
      have HX := Lib.hid (hx4.set2 (.slice (V mi).1 m (V mi).2) (.int .i64 j))
      have hbs := bl_set (bl_set hb (g := w.heap.size) (i := 0) (Nat.le_refl _) (.slice (V mi).1 m (V mi).2)) (g := w.heap.size) (i := 1) (Nat.le_refl _) (.int .i64 j)
      go_wp2_with (fail)
      refine bodyPost_ret (results_cell_row rfl _ _ w.heap.size 92 _ (0, 0) _ rfl HX.out Try.underlying92 rfl (by kernel_rfl)) rfl ?_
      exact HF2.out _ hbs
    · have hkN : q < cs.length := by have := HK.out; omega
      have hlt : (q : Int) < (cs.length : Int) := by omega
      have HMK := Lib.hid HMK0
      have HIK := Lib.hid HIK0
      clear HMK0 HIK0
      have HCK : Hid (∀ W, Below wr.heap.size wr W → W.cell? ⟨b, o + q * 2, none⟩ = some (.slice (V q).1 (cs.getD q crsD).1.length (V q).2) ∧ W.cell? ⟨b, o + q * 2 + 1, none⟩ = some (.int .i64 (cs.getD q crsD).2)) := fun W hW => HC.out W (bl_call hb hW) q hkN
      generalize cs.getD q crsD = c1 at *
      generalize hml : (minTo cs k).1.length = m at *
      generalize hmj : (minTo cs k).2 = j at *
      have HML := Lib.hid hml
      have HMJ := Lib.hid hmj
      clear hml hmj
      generalize hmi : minI cs k = mi at *
      have HMI2 := Lib.hid hmi
      clear hmi
      obtain ⟨cst, cj⟩ := c1
      simp only [] at HCK HIK HMK
      have HCL : Hid (cst.length = cst.length) := rfl
      have hdr : Below wr.heap.size wr wr.drew := (Below.refl _ _).drew
      have HX5 := Lib.hid (fun W (hW : Below wr.heap.size wr W) => (hx5.call hW).two)
      go_wp2_with (fail)
      obtain ⟨a0, a1, _, _⟩ := HX5.out _ hdr
      obtain ⟨p2, p3⟩ := HCK.out _ hdr
      have HSM := Lib.hid (smc_c (V q).1 (V mi).1 cst.length (V q).2 m (V mi).2 cj j wr.drew)
      go_region_law (go_simp; refine HSM.out.mono ?_; rintro e w9 ⟨rfl, hb9'⟩; try go_simp)
      all_goals
        have hb9 : Below wr.heap.size wr w9 := bl_call hdr hb9'
        have hb09 := bl_call hb hb9
        have hx49 := hx4.call hb9
        have hx59 := hx5.call hb9
        obtain ⟨a2, a3⟩ := HCK.out w9 hb9
        obtain ⟨y0, y1, z0, z1⟩ := hx59.two
        clear p2 p3 a0 a1 HSM
        by_cases hj : cj < j
        · have hc : cmpI cj j < 0 := by unfold cmpI; rw [if_pos hj]; decide
          rw [if_pos hj] at HIK HMK
          have HX6 := Lib.hid (hx59.set2 (.slice (V q).1 cst.length (V q).2) (.int .i64 cj))
          have HX4 := Lib.hid ((hx49.far (g' := w.heap.size + 1) (i := 0) (by omega) (.slice (V q).1 cst.length (V q).2)).far (g' := w.heap.size + 1) (i := 1) (by omega) (.int .i64 cj))
          have hbs := bl_set (bl_set hb09 (g := w.heap.size + 1) (i := 0) (by omega) (.slice (V q).1 cst.length (V q).2)) (g := w.heap.size + 1) (i := 1) (by omega) (.int .i64 cj)
          generalize cmpI cj j = cc at *
          go_wp2_with (fail)
          go_roundg gi
          case rel => exact ⟨q + 1, by have := HK.out; show _ = _; omega, by omega, by go_num, HX4.out, by rw [Nat.add_sub_cancel, HIK.out, HMK.out]; exact HX6.out, hbs⟩
          case measure => omega
        · have hc : ¬ cmpI cj j < 0 := by unfold cmpI; rw [if_neg hj]; split <;> decide
          rw [if_neg hj] at HIK HMK
          generalize cmpI cj j = cc at *
          go_wp2_with (fail)
          go_roundg gi
          case rel => exact ⟨q + 1, by have := HK.out; show _ = _; omega, by omega, by go_num, hx49, by rw [Nat.add_sub_cancel, HIK.out, HMK.out, HML.out, HMJ.out]; exact hx59, hb09⟩
          case measure => omega
end Go.Proofs.Ytmmjdabioolodaa
