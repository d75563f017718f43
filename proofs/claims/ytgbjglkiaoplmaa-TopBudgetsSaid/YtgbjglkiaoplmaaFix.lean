/- Lists of fixes in memory; which fixes are valid: package budget's. -/
import Derived.Test.YtgbjglkiaoplmaaRtt
import Derived.Test.YtgbjglkiaoplmaaBudF
namespace Go.Proofs.Ytgbjglkiaoplmaa
open Go.RowKit

def cellsF (l : List Fx) : List Value := l.flatMap fun a => [.int .i64 a.i, .int .i64 a.n, .int .i64 a.d, .int .i64 a.c]
@[simp] theorem cellsF_length (l : List Fx) : (cellsF l).length = l.length * 4 := by
  induction l with
  | nil => rfl
  | cons a t ih => simp only [cellsF, List.flatMap_cons, List.length_append, List.length_cons, List.length_nil] at ih ⊢; omega
theorem cellsF_get : ∀ (l : List Fx) (k : Nat), k < l.length → (cellsF l)[k * 4]? = some (.int .i64 (l.getD k fx0).i) ∧ (cellsF l)[k * 4 + 1]? = some (.int .i64 (l.getD k fx0).n) ∧ (cellsF l)[k * 4 + 2]? = some (.int .i64 (l.getD k fx0).d) ∧ (cellsF l)[k * 4 + 3]? = some (.int .i64 (l.getD k fx0).c)
  | a :: t, 0, _ => by simp [cellsF]
  | a :: t, k + 1, h => by
    have := cellsF_get t k (by simpa using h)
    rw [Nat.succ_mul]
    simpa [cellsF] using this
theorem Rd.fix {w : World} {A : Option Addr} {l : List Fx} (h : Rd w A (cellsF l)) {k : Nat} (hk : k < l.length) : ∃ b o, A = some ⟨b, o, none⟩ ∧ b < w.heap.size ∧
    w.cell? ⟨b, o + k * 4, none⟩ = some (.int .i64 (l.getD k fx0).i) ∧ w.cell? ⟨b, o + k * 4 + 1, none⟩ = some (.int .i64 (l.getD k fx0).n) ∧ w.cell? ⟨b, o + k * 4 + 2, none⟩ = some (.int .i64 (l.getD k fx0).d) ∧ w.cell? ⟨b, o + k * 4 + 3, none⟩ = some (.int .i64 (l.getD k fx0).c) := by
  obtain ⟨b, o, rfl, hb, hc⟩ := h.at_ (k := k * 4) (by simp; omega)
  obtain ⟨h0, h1, h2, h3⟩ := cellsF_get l k hk
  exact ⟨b, o, rfl, hb, hc _ _ h0, by rw [Nat.add_assoc]; exact hc _ _ h1, by rw [Nat.add_assoc]; exact hc _ _ h2, by rw [Nat.add_assoc]; exact hc _ _ h3⟩
theorem Rd.fixs {w : World} {A : Option Addr} {l : List Fx} (h : Rd w A (cellsF l)) {k : Nat} (hk : k < l.length) : ∃ b o, A = some ⟨b, o, none⟩ ∧ ∀ w1, Below w.heap.size w w1 →
    w1.cell? ⟨b, o + k * 4, none⟩ = some (.int .i64 (l.getD k fx0).i) ∧ w1.cell? ⟨b, o + k * 4 + 1, none⟩ = some (.int .i64 (l.getD k fx0).n) ∧ w1.cell? ⟨b, o + k * 4 + 2, none⟩ = some (.int .i64 (l.getD k fx0).d) ∧ w1.cell? ⟨b, o + k * 4 + 3, none⟩ = some (.int .i64 (l.getD k fx0).c) := by
  obtain ⟨b, o, rfl, hb, h0, h1, h2, h3⟩ := h.fix hk
  exact ⟨b, o, rfl, fun w1 hw => ⟨(hw.cell (p := ⟨b, o + k * 4, none⟩) hb).trans h0, (hw.cell (p := ⟨b, o + k * 4 + 1, none⟩) hb).trans h1, (hw.cell (p := ⟨b, o + k * 4 + 2, none⟩) hb).trans h2, (hw.cell (p := ⟨b, o + k * 4 + 3, none⟩) hb).trans h3⟩⟩
theorem Bx.four {w : World} {g : Nat} {T : TypeId} {a b c d : Value} (h : Bx w g T #[a, b, c, d]) : w.cell? ⟨g, 0, none⟩ = some a ∧ w.cell? ⟨g, 1, none⟩ = some b ∧ w.cell? ⟨g, 2, none⟩ = some c ∧ w.cell? ⟨g, 3, none⟩ = some d := ⟨h.cell 0, h.cell 1, h.cell 2, h.cell 3⟩
theorem isItem_c (A : Option Addr) (l : List It) (cap : Nat) (k : Int) (w : World) :
    Calls Try.prog 103 #[.slice A l.length cap, .int .i64 k] w fun e w' => e = .returned (.bool (itemB l k)) ∧ w = w' := by
  have hd : itemB l k = (decide (0 ≤ k) && decide (k < (l.length : Int))) := by unfold itemB; rw [Bool.decide_and]
  rw [hd]
  clear hd
  by_cases h1 : 0 ≤ k
  · rw [decide_eq_true h1]
    by_cases h2 : k < (l.length : Int)
    · rw [decide_eq_true h2]
      go_enter Try.func103, Try.ntmps103
      go_wp2
      all_goals
        go_ret
        exact ⟨rfl, rfl⟩
    · rw [decide_eq_false h2]
      go_enter Try.func103, Try.ntmps103
      go_wp2
      all_goals
        go_ret
        exact ⟨rfl, rfl⟩
  · rw [decide_eq_false h1]
    go_enter Try.func103, Try.ntmps103
    go_wp2
    all_goals
      go_ret
      exact ⟨rfl, rfl⟩
theorem fixB_less {l : List It} {f : Fx} (hl : OkIs 8 l) (hi : itemB l f.i = true) (hr : rateB f.n f.d = true) :
    (!decide ((l.getD f.i.toNat it0).n * f.d < f.n * (l.getD f.i.toNat it0).d)) = decide (part f.n f.d ≤ part (l.getD f.i.toNat it0).n (l.getD f.i.toNat it0).d) := by
  have hi' := of_decide_eq_true hi
  obtain ⟨a1, a2, a3, a4⟩ := (hl f.i.toNat (by omega)).den
  obtain ⟨b1, b2, b3, b4⟩ := rateB_iff.1 hr
  rw [Bool.eq_iff_iff, Bool.not_eq_true', decide_eq_false_iff_not, decide_eq_true_eq]
  rw [cross_lt (p := part (l.getD f.i.toNat it0).n (l.getD f.i.toNat it0).d) (q := part f.n f.d) (by omega) (by omega) (part_mul a1 a2).symm (part_mul b1 b2).symm]
  omega
set_option maxRecDepth 100000 in
set_option maxHeartbeats 2000000 in
theorem isFix_c (A : Option Addr) (l : List It) (cap : Nat) (f : Fx) (w : World) (hok : OkIs 8 l) (hr : Rd w A (cellsI l)) :
    Calls Try.prog 81 #[.slice A l.length cap, .agg #[.int .i64 f.i, .int .i64 f.n, .int .i64 f.d, .int .i64 f.c]] w fun e w' => e = .returned (.bool (fixB l f)) ∧ Below w.heap.size w w' := by
  have HI := fun w => Lib.hid (isItem_c A l cap f.i w)
  have HR := fun w => Lib.hid (isRate_c f.n f.d w)
  have hb0 := bl_alloc (Below.refl w.heap.size w) (.cells #[.int .i64 f.i, .int .i64 f.n, .int .i64 f.d, .int .i64 f.c] 77)
  have x0 : Bx (w.alloc (.cells #[.int .i64 f.i, .int .i64 f.n, .int .i64 f.d, .int .i64 f.c] 77)) w.heap.size 77 #[.int .i64 f.i, .int .i64 f.n, .int .i64 f.d, .int .i64 f.c] := Bx.new w _ _
  have HF : Hid (fixB l f = (itemB l f.i && rateB f.n f.d && decide (0 ≤ f.c ∧ f.c ≤ 99) && decide (part f.n f.d ≤ part (l.getD f.i.toNat it0).n (l.getD f.i.toNat it0).d))) := rfl
  obtain ⟨y0, y1, y2, y3⟩ := x0.four
  rcases hi : itemB l f.i with _ | _
  · rw [hi] at HI HF
    have hz : fixB l f = false := by rw [HF.out]; rfl
    rw [hz]
    clear HF hz hi
    go_enter Try.func81, Try.ntmps81
    go_wp2_with (fail)
    refine (HI _).out.mono ?_
    rintro e w1 ⟨rfl, rfl⟩
    go_wp2_with (fail)
    go_ret
    exact ⟨rfl, hb0⟩
  · rw [hi] at HI HF
    have hi' : 0 ≤ f.i ∧ f.i < (l.length : Int) := of_decide_eq_true hi
    rcases hy : rateB f.n f.d with _ | _
    · rw [hy] at HR HF
      have hz : fixB l f = false := by rw [HF.out]; rfl
      rw [hz]
      clear HF hz hi hy
      go_enter Try.func81, Try.ntmps81
      go_wp2_with (fail)
      refine (HI _).out.mono ?_
      rintro e w1 ⟨rfl, rfl⟩
      go_wp2_with (fail)
      refine (HR _).out.mono ?_
      rintro e w1 ⟨rfl, hb1⟩
      go_wp2_with (fail)
      go_ret
      exact ⟨rfl, bl_call hb0 hb1⟩
    · have HL := Lib.hid (fixB_less hok hi hy)
      rw [hy] at HR HF
      by_cases hc : 0 ≤ f.c ∧ f.c ≤ 99
      · have hz : fixB l f = !decide ((l.getD f.i.toNat it0).n * f.d < f.n * (l.getD f.i.toNat it0).d) := by rw [HF.out, HL.out, decide_eq_true hc]; rfl
        obtain ⟨a1, a2, a3, a4⟩ := (hok f.i.toNat (by omega)).den
        obtain ⟨b1, b2, b3, b4⟩ := rateB_iff.1 hy
        have p1 := mul_in (a := (l.getD f.i.toNat it0).n) (b := f.d) (A := 10) (B := 10) ⟨by omega, by omega⟩ ⟨by omega, by omega⟩
        have p2 := mul_in (a := f.n) (b := (l.getD f.i.toNat it0).d) (A := 10) (B := 10) ⟨by omega, by omega⟩ ⟨by omega, by omega⟩
        have HS := fun w => Lib.hid (less_c (l.getD f.i.toNat it0).n (l.getD f.i.toNat it0).d f.n f.d w (by omega) (by omega))
        rw [hz]
        clear HF HL hz hy a1 a2 a3 a4 b1 b2 b3 b4 p1 p2 hok
        generalize decide ((l.getD f.i.toNat it0).n * f.d < f.n * (l.getD f.i.toNat it0).d) = z at *
        generalize f.n = fn at *
        generalize f.d = fd at *
        generalize f.c = fc at *
        clear hi
        generalize f.i = fi at *
        obtain ⟨k, rfl⟩ : ∃ k : Nat, fi = (k : Int) := ⟨fi.toNat, by omega⟩
        simp only [Int.toNat_natCast] at HS
        obtain ⟨hc1, hc2⟩ := hc
        have hkN : k < l.length := by omega
        have hkN' : (k : Int) < (l.length : Int) := by omega
        have hc3 : ¬ fc < 0 := by omega
        have hc4 : ¬ 99 < fc := by omega
        clear hi'
        obtain ⟨b, o, rfl, HJ⟩ := hr.itms hkN
        replace HJ := Lib.hid HJ
        generalize (l.getD k it0).u = u at *
        generalize (l.getD k it0).n = n at *
        generalize (l.getD k it0).d = d at *
        go_enter Try.func81, Try.ntmps81
        go_wp2_with (fail)
        refine (HI _).out.mono ?_
        rintro e w1 ⟨rfl, rfl⟩
        go_wp2_with (fail)
        refine (HR _).out.mono ?_
        rintro e w1 ⟨rfl, hb1⟩
        have x1 := x0.call hb1
        have hb01 := bl_call hb0 hb1
        obtain ⟨v0, v1, v2, v3⟩ := x1.four
        obtain ⟨v0', v1', v2', v3'⟩ := x1.drew.four
        obtain ⟨c0, c1, c2⟩ := HJ.out w1 hb01
        obtain ⟨c0', c1', c2'⟩ := HJ.out w1.drew (bl_call hb01 (Below.refl _ _).drew)
        have HSd := Lib.hid (HS w1.drew)
        go_wp2_with (fail)
        have hd : Below w1.heap.size w1 w1.drew := (Below.refl _ _).drew
        go_region_law (go_simp; refine HSd.out.out.mono ?_; rintro e w4 ⟨rfl, hb4⟩; have hb04 := bl_call hd hb4; try go_simp)
        all_goals
          go_wp2_with (fail)
          go_ret
          exact ⟨rfl, bl_call hb01 hb04⟩
      · have hz : fixB l f = false := by rw [HF.out, decide_eq_false hc]; rfl
        rw [hz]
        clear HF hz hi hy HL
        by_cases hc1 : f.c < 0
        · clear hc
          go_enter Try.func81, Try.ntmps81
          go_wp2_with (fail)
          refine (HI _).out.mono ?_
          rintro e w1 ⟨rfl, rfl⟩
          go_wp2_with (fail)
          refine (HR _).out.mono ?_
          rintro e w1 ⟨rfl, hb1⟩
          obtain ⟨v0, v1, v2, v3⟩ := (x0.call hb1).four
          go_wp2_with (fail)
          go_ret
          exact ⟨rfl, bl_call hb0 hb1⟩
        · have hc2 : 99 < f.c := by omega
          clear hc
          go_enter Try.func81, Try.ntmps81
          go_wp2_with (fail)
          refine (HI _).out.mono ?_
          rintro e w1 ⟨rfl, rfl⟩
          go_wp2_with (fail)
          refine (HR _).out.mono ?_
          rintro e w1 ⟨rfl, hb1⟩
          obtain ⟨v0, v1, v2, v3⟩ := (x0.call hb1).four
          go_wp2_with (fail)
          go_ret
          exact ⟨rfl, bl_call hb0 hb1⟩
end Go.Proofs.Ytgbjglkiaoplmaa
