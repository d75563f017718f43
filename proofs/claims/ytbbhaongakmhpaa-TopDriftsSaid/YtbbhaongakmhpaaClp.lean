/- The first pair that clashes: package drift's. -/
import Derived.Test.YtbbhaongakmhpaaRdg
import Derived.ScopeJumps
import Derived.WalkMore
namespace Go.Proofs.Ytbbhaongakmhpaa
open Go.RowKit

/-- Readings and a rate whose numbers are small. -/
structure Fit (l : List T3) (r : Int) : Prop where
  r0 : 0 ≤ r
  r1 : r ≤ 9
  t0 : ∀ k, k < l.length → 0 ≤ tm l k
  t1 : ∀ k, k < l.length → tm l k ≤ 1000
  lo : ∀ k, k < l.length → -1000 ≤ lw l k
  lo1 : ∀ k, k < l.length → lw l k ≤ 1000
  hi : ∀ k, k < l.length → hg l k ≤ 1000
  hi0 : ∀ k, k < l.length → -1000 ≤ hg l k
theorem Ok.fit {l : List T3} {r : Int} (h : Ok l) (h0 : 0 ≤ r) (h9 : r ≤ 9) : Fit l r :=
  ⟨h0, h9, h.t0, h.t1, h.lo, fun k hk => Int.le_trans (h.lh k hk) (h.hi k hk), h.hi, fun k hk => Int.le_trans (h.lo k hk) (h.lh k hk)⟩
/-- A reading whose numbers are small. -/
structure Fit1 (t l h : Int) : Prop where
  t0 : 0 ≤ t
  t1 : t ≤ 1000
  l0 : -1000 ≤ l
  l1 : l ≤ 1000
  h0 : -1000 ≤ h
  h1 : h ≤ 1000
theorem Fit.one {l : List T3} {r : Int} (h : Fit l r) {k : Nat} (hk : k < l.length) : Fit1 (tm l k) (lw l k) (hg l k) := ⟨h.t0 k hk, h.t1 k hk, h.lo k hk, h.lo1 k hk, h.hi0 k hk, h.hi k hk⟩
theorem way_wrap {r a b : Int} (h0 : 0 ≤ r) (h1 : r ≤ 9) (ha : 0 ≤ a) (ha1 : a ≤ 2000) (hb : 0 ≤ b) (hb1 : b ≤ 2000) : wrap64 (r * farI a b) = r * farI a b := by
  have := way_le h0 h1 ha ha1 hb hb1
  exact IntWalk.wrap64_in _ ⟨by omega, by omega⟩
theorem clash_dec {r : Int} {a b : T3} {f : Int} (hf : farI a.1 b.1 = f) : clashB r a b = decide (r * f < max (a.2.1 - b.2.2) (b.2.1 - a.2.2)) := by
  unfold clashB
  rw [hf]
  generalize r * f = p
  by_cases h1 : p < a.2.1 - b.2.2
  · rw [decide_eq_true h1, Bool.true_or]; symm; rw [decide_eq_true_eq]; omega
  · rw [decide_eq_false h1, Bool.false_or]
    by_cases h2 : p < b.2.1 - a.2.2
    · rw [decide_eq_true h2]; symm; rw [decide_eq_true_eq]; omega
    · rw [decide_eq_false h2]; symm; rw [decide_eq_false_iff_not]; omega
set_option maxHeartbeats 1000000 in
theorem clash_c (r t l h t' l' h' : Int) (w : World) (r0 : 0 ≤ r) (r9 : r ≤ 9) (ha : Fit1 t l h) (hb : Fit1 t' l' h') :
    Calls Try.prog 65 #[.agg #[.int .i64 t, .int .i64 l, .int .i64 h], .agg #[.int .i64 t', .int .i64 l', .int .i64 h'], .int .i64 r] w fun e w' => e = .returned (.bool (clashB r (t, l, h) (t', l', h'))) ∧ Below w.heap.size w w' := by
  obtain ⟨a1, a2, a3, a4, a5, a6⟩ := ha
  obtain ⟨b1, b2, b3, b4, b5, b6⟩ := hb
  have HD := fun w => Lib.hid (distance_c t t' w ⟨by omega, by omega⟩ ⟨by omega, by omega⟩)
  have hw1 : wrap64 (r * farI t t') = r * farI t t' := way_wrap r0 r9 a1 (by omega) b1 (by omega)
  have hw2 : wrap64 (l - h') = l - h' := IntWalk.wrap64_in _ ⟨by omega, by omega⟩
  have hw3 : wrap64 (l' - h) = l' - h := IntWalk.wrap64_in _ ⟨by omega, by omega⟩
  have hx2 : IntKind.i64.wrap (l - h') = l - h' := by rw [IntWalk.i64_left]; exact hw2
  have hx3 : IntKind.i64.wrap (l' - h) = l' - h := by rw [IntWalk.i64_left]; exact hw3
  have HC : Hid (clashB r (t, l, h) (t', l', h') = decide (r * farI t t' < max (l - h') (l' - h))) := clash_dec rfl
  generalize clashB r (t, l, h) (t', l', h') = res at HC
  generalize farI t t' = f at *
  obtain ⟨W0, hW0⟩ : ∃ W0, W0 = (w.alloc (.cells #[.int .i64 t, .int .i64 l, .int .i64 h] 55)).alloc (.cells #[.int .i64 t', .int .i64 l', .int .i64 h'] 55) := ⟨_, rfl⟩
  have hb0 : Below w.heap.size w W0 := by rw [hW0]; exact bl_alloc (bl_alloc (Below.refl w.heap.size w) _) _
  have hb1 : Bx W0 w.heap.size 55 #[.int .i64 t, .int .i64 l, .int .i64 h] := by rw [hW0]; exact (Bx.new _ _ _).alloc _
  have hb2 : Bx W0 (w.heap.size + 1) 55 #[.int .i64 t', .int .i64 l', .int .i64 h'] := by rw [hW0]; exact Bx.newAt (by rw [World.size_alloc])
  have HCL : Hid (∀ w1, Below W0.heap.size W0 w1 → (w1.cell? ⟨w.heap.size, 0, none⟩ = some (.int .i64 t) ∧ w1.cell? ⟨w.heap.size, 1, none⟩ = some (.int .i64 l) ∧ w1.cell? ⟨w.heap.size, 2, none⟩ = some (.int .i64 h)) ∧ w1.cell? ⟨w.heap.size + 1, 0, none⟩ = some (.int .i64 t') ∧ w1.cell? ⟨w.heap.size + 1, 1, none⟩ = some (.int .i64 l') ∧ w1.cell? ⟨w.heap.size + 1, 2, none⟩ = some (.int .i64 h')) := fun w1 hw => by
    obtain ⟨z0, z1, z2, _, _, _⟩ := (hb1.call hw).three
    obtain ⟨y0, y1, y2, _, _, _⟩ := (hb2.call hw).three
    exact ⟨⟨z0, z1, z2⟩, y0, y1, y2⟩
  clear hb1 hb2
  have hbW : Below W0.heap.size W0 W0.drew := (Below.refl _ _).drew
  go_enter Try.func65, Try.ntmps65
  go_wp2_with (fail)
  rw [← hW0]
  clear hW0
  refine wp_region_low (hbW) (by kernel_rfl) (by kernel_rfl) ?_
  repeat (first
    | go_big_quiet_skip
    | (go_big_quiet_want
       apply Exists.intro
       refine And.intro (fun W hW => ?_) ?_
       · (obtain ⟨⟨z0, z1, z2⟩, z3, z4, z5⟩ := HCL.out W hW)
         go_simp
         first
           | exact rfl
           | (refine (HD W).out.mono ?_; rintro e w1 ⟨rfl, rfl⟩; exact ⟨rfl, hW⟩)
       try go_simp
       go_big_quiet_on))
  refine wpQuiet_nil ?_
  intro w9 hb9
  go_wp2_with (fail)
  all_goals
    go_ret
    refine ⟨ret_b ?_, bl_call hb0 hb9⟩
    rw [HC.out]
    simp only [IntWalk.i64_left, hw1, decide_eq_decide]
    omega

theorem jump_ret {l : Nat} {J : Act → World → Prop} {Q : Exit → Act → World → Prop} {a : Act} {w : World} : Exit.jump l J Q .ret a w = Q .ret a w := rfl
def pairT : Option (Nat × Nat) → Value
  | some (i, k) => .tuple #[.int .i64 (i : Int), .int .i64 (k : Int), .bool true]
  | none => .tuple #[.int .i64 0, .int .i64 0, .bool false]
theorem row_go {f : Nat → Bool} {g k : Nat} {α : Type} {F : Option Nat → α} {x : α} (h : x = F (rowF f (g + 1) k)) : (f k = true → x = F (some k)) ∧ (f k = false → x = F (rowF f g (k + 1))) := by
  unfold rowF at h
  constructor
  · intro hf; rw [if_pos hf] at h; exact h
  · intro hf; rw [if_neg (by rw [hf]; decide)] at h; exact h
/-- What the rest of the rows says, the row i from k on ahead. -/
def pairR (c : Nat → Nat → Bool) (n g i : Nat) : Option Nat → Option (Nat × Nat)
  | some k => some (i, k)
  | none => pairF c n g (i + 1)
theorem pairF_row (c : Nat → Nat → Bool) (n g i : Nat) : pairF c n (g + 1) i = pairR c n g i (rowF (c i) (n - (i + 1)) (i + 1)) := by
  rw [pairF]; unfold pairR; rfl
set_option maxRecDepth 100000 in
set_option maxHeartbeats 4000000 in
theorem firstClash_c (A : Option Addr) (l : List T3) (cap : Nat) (r : Int) (w : World) (hlen : l.length ≤ 1000) (hf : Fit l r) (hr : Rd w A (cellsT l)) :
    Calls Try.prog 59 #[.slice A l.length cap, .int .i64 r] w fun e w' => e = .returned (pairT (pairO l r)) ∧ Below w.heap.size w w' := by
  have HF := Lib.hid hf
  clear hf
  have HP : Hid (pairO l r = pairF (cl l r) l.length l.length 0) := rfl
  have HPT : Hid (∀ i k : Nat, pairT (some (i, k)) = .tuple #[.int .i64 (i : Int), .int .i64 (k : Int), .bool true]) := fun _ _ => rfl
  generalize pairO l r = res at HP
  go_enter Try.func59, Try.ntmps59
  go_wp2_with (fail)
  refine wp_scope_jumps 0 (fun a' w' => Below w.heap.size w w' ∧ ∃ (i k : Nat) (u2 u3 u4 u5 u6 u9 u10 u11 u12 u13 u14 u15 u16 u17 u18 u19 u20 u21 u22 u23 u24 u25 u26 u27 u28 u29 u30 u31 u32 u33 u34 : Value), res = some (i, k) ∧ a' = { tmps := #[.slice A l.length cap, .int .i64 r, u2, u3, u4, u5, u6, .int .i64 (i : Int), .int .i64 (k : Int), u9, u10, u11, u12, u13, u14, u15, u16, u17, u18, u19, u20, u21, u22, u23, u24, u25, u26, u27, u28, u29, u30, u31, u32, u33, u34], defers := [] }) (fun _ _ => 0) rfl ?_ ?_
  · go_wp2_with (fail)
    go_loopg [11] l.length (fun gk iv wr => ∃ i : Nat, Hid (i + gk = l.length) ∧ iv = .int .i64 (i : Int) ∧ Hid (res = pairF (cl l r) l.length gk i) ∧ Below w.heap.size w wr)
    case atStart => exact ⟨0, by simp [Hid], rfl, HP, Below.refl _ _⟩
    case round =>
      obtain ⟨i, HK, rfl, HR, hb⟩ := hrel
      rcases gk with _ | gi
      · obtain rfl : i = l.length := HK.out
        go_wp2_with (fail)
        rw [jump_ret]
        go_ret3
        refine ⟨?_, hb⟩
        have := HR.out
        rw [this]
        rfl
      · have hlt : i < l.length := by have := HK.out; omega
        have hlt' : (i : Int) < (l.length : Int) := by omega
        have HR2 : Hid (res = pairR (cl l r) l.length gi i (rowF (cl l r i) (l.length - (i + 1)) (i + 1))) := by show _ = _; rw [HR.out, pairF_row]
        clear HR
        go_wp2_with (fail)
        go_loopg [8] (l.length - (i + 1)) (fun g2 jv wr2 => ∃ j : Nat, Hid (j + g2 = l.length) ∧ Hid (i < j) ∧ jv = .int .i64 (j : Int) ∧ Hid (res = pairR (cl l r) l.length gi i (rowF (cl l r i) g2 j)) ∧ Below w.heap.size w wr2)
        case atStart => exact ⟨i + 1, by show _ = _; omega, by show _ < _; omega, by go_num, HR2, hb⟩
        case round =>
          obtain ⟨j, HJ, HIJ, rfl, HR3, hb2⟩ := hrel
          rcases gk with _ | gj
          · obtain rfl : j = l.length := HJ.out
            have HN : Hid (res = pairF (cl l r) l.length gi (i + 1)) := HR3.out
            clear HR3 HR2
            go_wp2_with (fail)
            go_roundg gi
            case rel => exact ⟨i + 1, by have := HK.out; show _ = _; omega, by go_num, HN, hb2⟩
            case measure => omega
          · have hltj : j < l.length := by have := HJ.out; omega
            have hltj' : (j : Int) < (l.length : Int) := by omega
            obtain ⟨H1, H2⟩ := row_go HR3.out
            replace H1 := Lib.hid H1
            replace H2 := Lib.hid H2
            clear HR3
            obtain ⟨b, o, rfl, hbl, ⟨c0, c1, c2⟩, d0, d1, d2⟩ := (hr.later hb2).tri2 hlt hltj
            have hfa := HF.out.one hlt
            have hfb := HF.out.one hltj
            have HCC := Lib.hid (fun w => clash_c r _ _ _ _ _ _ w HF.out.r0 HF.out.r1 hfa hfb)
            clear hfa hfb
            unfold tm lw hg at HCC
            have HE : Hid (clashB r ((l.getD i t0).1, (l.getD i t0).2.1, (l.getD i t0).2.2) ((l.getD j t0).1, (l.getD j t0).2.1, (l.getD j t0).2.2) = cl l r i j) := rfl
            have HCL : Hid (∀ w1, Below wr.heap.size wr w1 → (w1.cell? ⟨b, o + i * 3, none⟩ = some (.int .i64 (l.getD i t0).1) ∧ w1.cell? ⟨b, o + i * 3 + 1, none⟩ = some (.int .i64 (l.getD i t0).2.1) ∧ w1.cell? ⟨b, o + i * 3 + 2, none⟩ = some (.int .i64 (l.getD i t0).2.2)) ∧ (w1.cell? ⟨b, o + j * 3, none⟩ = some (.int .i64 (l.getD j t0).1) ∧ w1.cell? ⟨b, o + j * 3 + 1, none⟩ = some (.int .i64 (l.getD j t0).2.1) ∧ w1.cell? ⟨b, o + j * 3 + 2, none⟩ = some (.int .i64 (l.getD j t0).2.2))) := fun w1 hw => by
              have hh : ∀ j, w1.cell? ⟨b, j, none⟩ = wr.cell? ⟨b, j, none⟩ := fun j => hw.cell (p := ⟨b, j, none⟩) hbl
              exact ⟨⟨by rw [hh]; exact c0, by rw [hh]; exact c1, by rw [hh]; exact c2⟩, by rw [hh]; exact d0, by rw [hh]; exact d1, by rw [hh]; exact d2⟩
            clear c0 c1 c2 d0 d1 d2
            generalize l.getD i t0 = g1 at HCC HCL HE
            generalize l.getD j t0 = g2 at HCC HCL HE
            obtain ⟨gt, gl, gh⟩ := g1
            obtain ⟨gt', gl', gh'⟩ := g2
            simp only [] at HCC HCL HE
            generalize clashB r (gt, gl, gh) (gt', gl', gh') = v at HCC HE
            have hbW : Below wr.heap.size wr wr.drew := (Below.refl _ _).drew
            go_wp2_with (fail)
            rcases v with _ | _
            · have HN := Lib.hid (H2.out HE.out.symm)
              clear H1 H2 HE
              refine wp_region_low (hbW) (by kernel_rfl) (by kernel_rfl) ?_
              repeat (first
                | go_big_quiet_skip
                | (go_big_quiet_want
                   apply Exists.intro
                   refine And.intro (fun W hW => ?_) ?_
                   · (obtain ⟨⟨z0, z1, z2⟩, z3, z4, z5⟩ := HCL.out W hW)
                     go_simp
                     first
                       | exact rfl
                       | (refine (HCC.out W).mono ?_; rintro e w1 ⟨rfl, hb1⟩; exact ⟨rfl, bl_call hW hb1⟩)
                   try go_simp
                   go_big_quiet_on))
              refine wpQuiet_nil ?_
              intro w9 hb9
              go_wp2_with (fail)
              go_roundg gj
              case rel => exact ⟨j + 1, by have := HJ.out; show _ = _; omega, by have := HIJ.out; show _ < _; omega, by go_num, HN, bl_call hb2 hb9⟩
              case measure => omega
            · have HN := Lib.hid (H1.out HE.out.symm)
              clear H1 H2 HE
              refine wp_region_low (hbW) (by kernel_rfl) (by kernel_rfl) ?_
              repeat (first
                | go_big_quiet_skip
                | (go_big_quiet_want
                   apply Exists.intro
                   refine And.intro (fun W hW => ?_) ?_
                   · (obtain ⟨⟨z0, z1, z2⟩, z3, z4, z5⟩ := HCL.out W hW)
                     go_simp
                     first
                       | exact rfl
                       | (refine (HCC.out W).mono ?_; rintro e w1 ⟨rfl, hb1⟩; exact ⟨rfl, bl_call hW hb1⟩)
                   try go_simp
                   go_big_quiet_on))
              refine wpQuiet_nil ?_
              intro w9 hb9
              go_wp2_with (fail)
              go_step3
              exact ⟨rfl, bl_call hb2 hb9, i, j, _, _, _, _, _, _, _, _, _, _, _, _, _, _, _, _, _, _, _, _, _, _, _, _, _, _, _, _, _, _, _, HN.out, rfl⟩
  · rintro a' w' ⟨hb, i, k, u2, u3, u4, u5, u6, u9, u10, u11, u12, u13, u14, u15, u16, u17, u18, u19, u20, u21, u22, u23, u24, u25, u26, u27, u28, u29, u30, u31, u32, u33, u34, HN, rfl⟩
    have HN := Lib.hid HN
    go_wp2_with (fail)
    rw [jump_ret]
    go_ret3
    refine ⟨?_, hb⟩
    rw [HN.out]
    rfl
end Go.Proofs.Ytbbhaongakmhpaa
