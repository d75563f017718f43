/- The smallest gate that exchanges bring to the next place. -/
import Derived.Test.YteoajadcdjaalaaTied
import Derived.Deep.LoopGhost
namespace Go.Proofs.Yteoajadcdjaalaa
open Go.RowKit

/-- None of the m gates from nx on is tied to the gate i. -/
def noTieTo (l : List G) (nx i m : Nat) : Bool := (List.range m).all fun q => !tiedG (l.getD (nx + q) g0) (l.getD i g0)
theorem noTieTo_succ (l : List G) (nx i m : Nat) : noTieTo l nx i (m + 1) = (noTieTo l nx i m && !tiedG (l.getD (nx + m) g0) (l.getD i g0)) := by
  simp [noTieTo, List.range_succ]
theorem noTieTo_no {l : List G} {nx i m n : Nat} (h : m < n) (ht : tiedG (l.getD (nx + m) g0) (l.getD i g0) = true) : noTieTo l nx i n = false := by
  rw [noTieTo, List.all_eq_false]
  exact ⟨m, List.mem_range.2 h, by rw [ht]; simp⟩
def cmpGG (x y : G) : Int := cmpG x.1 x.2.1 x.2.2.1 x.2.2.2 y.1 y.2.1 y.2.2.1 y.2.2.2
/-- The best of the first m places behind nx. -/
def bestL (l : List G) (nx : Nat) : Nat → Nat
  | 0 => nx
  | m + 1 => if 0 ≤ cmpGG (l.getD (nx + 1 + m) g0) (l.getD (bestL l nx m) g0) then bestL l nx m else if noTieTo l nx (nx + 1 + m) (m + 1) then nx + 1 + m else bestL l nx m
theorem bestL_le (l : List G) (nx : Nat) : ∀ m, nx ≤ bestL l nx m ∧ bestL l nx m ≤ nx + m
  | 0 => by simp [bestL]
  | m + 1 => by
    have := bestL_le l nx m
    rw [bestL]
    split
    · omega
    · split <;> omega
def smallestL (l : List G) (nx : Nat) : Nat := bestL l nx (l.length - 1 - nx)
theorem smallestL_lt {l : List G} {nx : Nat} (h : nx < l.length) : nx ≤ smallestL l nx ∧ smallestL l nx < l.length := by
  have := bestL_le l nx (l.length - 1 - nx)
  unfold smallestL; omega

set_option maxRecDepth 100000 in
set_option maxHeartbeats 4000000 in
theorem smallest_c (g : Nat) (A : Option Addr) (l : List G) (c nx : Nat) (w : World) (hlen : l.length ≤ 100) (hnx : nx < l.length) (hr : Rd w A (cellsG l)) (hx : Bx w g 82 #[.slice A l.length c, .int .i64 nx]) :
    Calls Try.prog 90 #[.pointer (some ⟨g, 0, none⟩)] w fun e w' => e = .returned (.int .i64 (smallestL l nx)) ∧ Below w.heap.size w w' := by
  obtain ⟨i1, i2, _, _⟩ := hx.two
  go_enter Try.func90, Try.ntmps90
  go_wp2_with (fail)
  go_step3
  go_wp2_with (fail)
  go_step3
  go_wp2_with (fail)
  go_loopg [3, 4] (l.length - 1 - nx) (fun gk bv iv wr => ∃ m : Nat, nx + 1 + m + gk = l.length ∧ bv = .int .i64 ((bestL l nx m : Nat) : Int) ∧ iv = .int .i64 ((nx + 1 + m : Nat) : Int) ∧ Below w.heap.size w wr)
  case atStart => exact ⟨0, by omega, rfl, by go_num, Below.refl _ _⟩
  case round =>
    obtain ⟨m, hm, rfl, rfl, hb⟩ := hrel
    have hx1 := hx.call hb
    obtain ⟨j1, j2, _, _⟩ := hx1.two
    clear i1 i2
    obtain ⟨hb1, hb2⟩ := bestL_le l nx m
    generalize hB : bestL l nx m = B at *
    generalize hI : nx + 1 + m = I at *
    rcases gk with _ | gh
    · obtain rfl : I = l.length := by omega
      have HS : Hid (smallestL l nx = B) := by show _ = _; rw [smallestL, ← hB]; congr 1; omega
      go_wp2_with (fail)
      rw [Exit.noGoto_ret]
      go_ret
      exact ⟨by rw [HS.out]; rfl, hb⟩
    · have hlt : I < l.length := by omega
      have hlt' : (I : Int) < (l.length : Int) := by omega
      have hBl : B < l.length := by omega
      obtain ⟨b, o, rfl, hbl, _, _⟩ := (hr.later hb).gates2 hlt hBl
      have hG : Hid (∀ w1, Below wr.heap.size wr w1 → (w1.cell? ⟨g, 0, none⟩ = some (.slice (some ⟨b, o, none⟩) l.length c) ∧ w1.cell? ⟨g, 1, none⟩ = some (.int .i64 nx)) ∧
        (w1.cell? ⟨b, o + I * 4, none⟩ = some (.int .i64 (l.getD I g0).1) ∧ w1.cell? ⟨b, o + I * 4 + 1, none⟩ = some (.int .i64 (l.getD I g0).2.1) ∧ w1.cell? ⟨b, o + I * 4 + 2, none⟩ = some (.int .i64 (l.getD I g0).2.2.1) ∧ w1.cell? ⟨b, o + I * 4 + 3, none⟩ = some (.int .i64 (l.getD I g0).2.2.2)) ∧
        (w1.cell? ⟨b, o + B * 4, none⟩ = some (.int .i64 (l.getD B g0).1) ∧ w1.cell? ⟨b, o + B * 4 + 1, none⟩ = some (.int .i64 (l.getD B g0).2.1) ∧ w1.cell? ⟨b, o + B * 4 + 2, none⟩ = some (.int .i64 (l.getD B g0).2.2.1) ∧ w1.cell? ⟨b, o + B * 4 + 3, none⟩ = some (.int .i64 (l.getD B g0).2.2.2))) := fun w1 hb1 => by
        obtain ⟨b', o', he, _, h1, h2⟩ := (hr.later (bl_call hb hb1)).gates2 hlt hBl
        injection he with he
        injection he with e1 e2
        subst e1 e2
        obtain ⟨q1, q2, _, _⟩ := (hx1.call hb1).two
        exact ⟨⟨q1, q2⟩, h1, h2⟩
      have HC : Hid (cmpGG (l.getD I g0) (l.getD B g0) = cmpG (l.getD I g0).1 (l.getD I g0).2.1 (l.getD I g0).2.2.1 (l.getD I g0).2.2.2 (l.getD B g0).1 (l.getD B g0).2.1 (l.getD B g0).2.2.1 (l.getD B g0).2.2.2) := rfl
      have HCc := fun w => Lib.hid (compare_c (l.getD I g0).1 (l.getD I g0).2.1 (l.getD I g0).2.2.1 (l.getD I g0).2.2.2 (l.getD B g0).1 (l.getD B g0).2.1 (l.getD B g0).2.2.1 (l.getD B g0).2.2.2 w)
      rw [← HC.out] at HCc
      have HN : Hid (bestL l nx (m + 1) = if 0 ≤ cmpGG (l.getD I g0) (l.getD B g0) then B else if noTieTo l nx I (m + 1) then I else B) := by show _ = _; rw [bestL, hB, hI]
      have HT := fun (j : Nat) (hj : j < l.length) (w1 : World) (hb1 : Below w.heap.size w w1) => Lib.hid (tied_c (some ⟨b, o, none⟩) l c j I w1 (by omega) hj hlt (hr.later hb1))
      have hXr : Hid (∀ w1, Below w.heap.size w w1 → w1.cell? ⟨g, 0, none⟩ = some (.slice (some ⟨b, o, none⟩) l.length c) ∧ w1.cell? ⟨g, 1, none⟩ = some (.int .i64 nx)) := fun w1 h => by
        obtain ⟨q1, q2, _, _⟩ := (hx.call h).two
        exact ⟨q1, q2⟩
      generalize cmpGG (l.getD I g0) (l.getD B g0) = V at HC HCc HN
      generalize (l.getD I g0).1 = xk at *
      generalize (l.getD I g0).2.1 = xa at *
      generalize (l.getD I g0).2.2.1 = xb at *
      generalize (l.getD I g0).2.2.2 = xt at *
      generalize (l.getD B g0).1 = yk at *
      generalize (l.getD B g0).2.1 = ya at *
      generalize (l.getD B g0).2.2.1 = yb at *
      generalize (l.getD B g0).2.2.2 = yt at *
      have hCC : Below wr.heap.size wr wr.drew := (Below.refl _ _).drew
      go_wp2_with (fail)
      refine wp_region_low (hCC) (by kernel_rfl) (by kernel_rfl) ?_
      repeat (first
        | go_big_quiet_skip
        | (go_big_quiet_want
           apply Exists.intro
           refine And.intro (fun W hW => ?_) ?_
           · (obtain ⟨⟨r0, r1⟩, ⟨p0, p1, p2, p3⟩, q0, q1, q2, q3⟩ := hG.out W hW)
             go_simp
             first
               | exact rfl
               | ((refine (HCc W).out.mono ?_; rintro e w1 ⟨rfl, hb1⟩; exact ⟨rfl, bl_call hW hb1⟩))
           try go_simp
           go_big_quiet_on))
      refine wpQuiet_nil ?_
      intro w9 hb9
      have hb9w := bl_call hb hb9
      obtain ⟨s0, s1⟩ := hXr.out _ hb9w
      by_cases hV : 0 ≤ V
      · go_wp2_with (fail)
        go_roundg gh
        case rel => exact ⟨m + 1, by omega, by rw [HN.out, if_pos hV], by rw [← hI]; go_num, hb9w⟩
        case measure => omega
      · go_wp2_with (fail)
        go_loopg [5] (I - nx) (fun gk jv wi => ∃ q : Nat, nx + q + gk = I ∧ jv = .int .i64 ((nx + q : Nat) : Int) ∧ Hid (noTieTo l nx I q = true) ∧ Below w.heap.size w wi)
        case atStart => exact ⟨0, by omega, by go_num, rfl, hb9w⟩
        case round =>
          obtain ⟨q, hq, rfl, hnt, hbi⟩ := hrel
          clear s0 s1 hCC HCc hG j1 j2
          obtain ⟨s0, s1⟩ := hXr.out _ hbi
          rcases gk with _ | gi
          · obtain rfl : q = m + 1 := by omega
            have hBN : Hid (bestL l nx (m + 1) = I) := by show _ = _; rw [HN.out, if_neg (by omega), if_pos hnt.out]
            have hqI : nx + (m + 1) = I := by omega
            rw [hqI]
            go_wp2_with (fail)
            go_roundg gh
            case rel => exact ⟨m + 1, by omega, by rw [hBN.out], by rw [← hI]; go_num, hbi⟩
            case measure => omega
          · have hqI : ((nx + q : Nat) : Int) < (I : Int) := by omega
            have hqm : q < m + 1 := by omega
            have HT1 := HT (nx + q) (by omega) _ hbi
            have HNo := Lib.hid (fun h => @noTieTo_no l nx I q (m + 1) hqm h)
            have HSu : Hid (noTieTo l nx I (q + 1) = !tiedG (l.getD (nx + q) g0) (l.getD I g0)) := by show _ = _; rw [noTieTo_succ, hnt.out]; rfl
            generalize tiedG (l.getD (nx + q) g0) (l.getD I g0) = tb at HT1 HNo HSu
            generalize hJ : nx + q = J at *
            cases tb with
            | true =>
              have hBN : Hid (bestL l nx (m + 1) = B) := by show _ = _; rw [HN.out, if_neg (by omega), HNo.out rfl]; rfl
              go_wp2_with (fail)
              refine HT1.out.mono ?_
              rintro e w7 ⟨rfl, hb7⟩
              go_wp2_with (fail)
              go_roundg gh
              case rel => exact ⟨m + 1, by omega, by rw [hBN.out], by rw [← hI]; go_num, bl_call hbi hb7⟩
              case measure => omega
            | false =>
              go_wp2_with (fail)
              refine HT1.out.mono ?_
              rintro e w7 ⟨rfl, hb7⟩
              go_wp2_with (fail)
              go_roundg gi
              case rel => exact ⟨q + 1, by omega, by rw [← hJ]; go_num, HSu, bl_call hbi hb7⟩
              case measure => omega
end Go.Proofs.Yteoajadcdjaalaa
