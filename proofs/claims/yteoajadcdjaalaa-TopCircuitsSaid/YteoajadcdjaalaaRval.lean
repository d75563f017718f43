/- The document's Validate, Type and bound. -/
import Derived.Test.YteoajadcdjaalaaRcomm
import Derived.Test.YteoajadcdjaalaaLow
namespace Go.Proofs.Yteoajadcdjaalaa
open Go.RowKit

set_option maxRecDepth 100000 in
set_option maxHeartbeats 2000000 in
theorem rvalidate_c (n : Int) (A : Option Addr) (l : List G) (cap : Nat) (w : World) (hlen : l.length ≤ 1000) (hr : Rd w A (cellsG l)) :
    Calls Try.prog 25 #[.int .i64 n, .slice A l.length cap] w fun e w' => e = .returned (.int .i64 (validE n l)) ∧ Below w.heap.size w w' := by
  have HW := fun w => Lib.hid (within_c n 1 4 w)
  cases hin : inB n 1 4 with
  | false =>
    rw [hin] at HW
    have HE : Hid (validE n l = 1) := by show _ = _; rw [validE, hin]; rfl
    go_enter Try.func25, Try.ntmps25
    go_wp2_with (go_at_call 64; refine (HW _).out.mono ?_; rintro e w1 ⟨rfl, rfl⟩)
    go_ret
    exact ⟨by rw [HE.out]; rfl, Below.refl _ _⟩
  | true =>
    rw [hin] at HW
    have hn := inB_z.1 hin
    by_cases h3 : 10 < l.length
    · have h3' : (10 : Int) < (l.length : Int) := by omega
      have HE : Hid (validE n l = 3) := by show _ = _; rw [validE, hin, if_pos rfl, if_neg (by omega)]
      go_enter Try.func25, Try.ntmps25
      go_wp2_with (go_at_call 64; refine (HW _).out.mono ?_; rintro e w1 ⟨rfl, rfl⟩)
      go_ret
      exact ⟨by rw [HE.out]; rfl, Below.refl _ _⟩
    · have h3' : ¬ (10 : Int) < (l.length : Int) := by omega
      have HE : Hid (validE n l = gatesE n l) := by show _ = _; rw [validE, hin, if_pos rfl, if_pos (by omega)]
      have hn1 := hn.1
      have hn4 := hn.2
      clear hn hin
      go_enter Try.func25, Try.ntmps25
      go_wp2_with (go_at_call 64; refine (HW _).out.mono ?_; rintro e w1 ⟨rfl, rfl⟩)
      go_loopg [5] l.length (fun gk iv wr => ∃ k : Nat, k + gk = l.length ∧ iv = .int .i64 (k : Int) ∧ Hid ((l.take k).all (gateB n) = true) ∧ Below w.heap.size w wr)
      case atStart => exact ⟨0, by omega, rfl, by simp [Hid], Below.refl _ _⟩
      case round =>
        obtain ⟨k, hk, rfl, hall, hb⟩ := hrel
        rcases gk with _ | gi
        · obtain rfl : k = l.length := by omega
          go_wp2_with (fail)
          go_ret
          exact ⟨ret_i (by have h := hall.out; rw [List.take_length] at h; rw [HE.out, gatesE, h]; rfl), hb⟩
        · have hlt : k < l.length := by omega
          have hlt' : (k : Int) < (l.length : Int) := by omega
          obtain ⟨b, o, rfl, hbl, c0, c1, c2, c3⟩ := (hr.later hb).gate hlt
          have H1 := Lib.hid (allG_succ (gateB n) hlt)
          have H2 := Lib.hid (@allG_no (gateB n) l k hlt)
          generalize l.getD k g0 = g at c0 c1 c2 c3 H1 H2
          obtain ⟨gk, ga, gb, gt⟩ := g
          simp only [] at c0 c1 c2 c3
          have HG := fun w => Lib.hid (risGate_c n gk ga gb gt w hn1 hn4)
          have HGE : Hid (gateB n (gk, ga, gb, gt) = isGateB n gk ga gb gt) := rfl
          generalize isGateB n gk ga gb gt = v at HG HGE
          cases v with
          | true =>
            go_wp2_with (fail)
            refine (HG _).out.mono ?_
            rintro e w1 ⟨rfl, hb1⟩
            go_wp2_with (fail)
            go_roundg gi
            case rel => exact ⟨k + 1, by omega, by go_num, by show _ = _; rw [H1.out, hall.out, HGE.out]; rfl, bl_call hb hb1⟩
            case measure => omega
          | false =>
            go_wp2_with (fail)
            refine (HG _).out.mono ?_
            rintro e w1 ⟨rfl, hb1⟩
            go_wp2_with (fail)
            go_ret
            exact ⟨ret_i (by rw [HE.out, gatesE, H2.out HGE.out]; rfl), bl_call hb hb1⟩

theorem rType_c (k a b t : Int) (w : World) : Calls Try.prog 31 #[.agg #[.int .i64 k, .int .i64 a, .int .i64 b, .int .i64 t]] w
    fun e w' => e = .returned (.agg #[.int .i64 k, .int .i64 a, .int .i64 b, .int .i64 0]) ∧ Below w.heap.size w w' := by
  go_enter Try.func31, Try.ntmps31
  go_wp2
  exact bodyPost_ret (v := .agg #[.int .i64 k, .int .i64 a, .int .i64 b, .int .i64 0]) (by simp [results, Try.results31, go_sem]) rfl ⟨rfl, by repeat (first | exact Below.refl _ _ | refine bl_alloc ?_ _ | refine bl_set ?_ (by simp) _)⟩

/-- The four ways in which two types compare. -/
theorem type_cases (k a b k' a' b' : Int) : (typeB k a b k' a' b' = false ∧ k ≠ k') ∨ (typeB k a b k' a' b' = false ∧ k = k' ∧ a ≠ a') ∨ (typeB k a b k' a' b' = false ∧ k = k' ∧ a = a' ∧ b ≠ b') ∨ (typeB k a b k' a' b' = true ∧ k = k' ∧ a = a' ∧ b = b') := by
  by_cases h1 : k = k'
  · by_cases h2 : a = a'
    · by_cases h3 : b = b'
      · exact .inr (.inr (.inr ⟨by simp [typeB, h1, h2, h3], h1, h2, h3⟩))
      · exact .inr (.inr (.inl ⟨by simp [typeB, h3], h1, h2, h3⟩))
    · exact .inr (.inl ⟨by simp [typeB, h2], h1, h2⟩)
  · exact .inl ⟨by simp [typeB, h1], h1⟩

def rboundB (k a b k' a' b' : Int) : Bool := typeB k a b k' a' b' || !rcommB k a b k' a' b'

set_option maxRecDepth 100000 in
set_option maxHeartbeats 2000000 in
theorem rbound_c (k a b t k' a' b' t' : Int) (w : World) : Calls Try.prog 67 #[.agg #[.int .i64 k, .int .i64 a, .int .i64 b, .int .i64 t], .agg #[.int .i64 k', .int .i64 a', .int .i64 b', .int .i64 t']] w
    fun e w' => e = .returned (.bool (rboundB k a b k' a' b')) ∧ Below w.heap.size w w' := by
  have HB : Hid (rboundB k a b k' a' b' = (typeB k a b k' a' b' || !rcommB k a b k' a' b')) := rfl
  have x0 := (Bx.new w 23 #[.int .i64 k, .int .i64 a, .int .i64 b, .int .i64 t]).alloc (.cells #[.int .i64 k', .int .i64 a', .int .i64 b', .int .i64 t'] 23)
  have x1 : Bx ((w.alloc (.cells #[.int .i64 k, .int .i64 a, .int .i64 b, .int .i64 t] 23)).alloc (.cells #[.int .i64 k', .int .i64 a', .int .i64 b', .int .i64 t'] 23)) (w.heap.size + 1) 23 #[.int .i64 k', .int .i64 a', .int .i64 b', .int .i64 t'] := Bx.newAt (by simp)
  have hb0 := bl_alloc (bl_alloc (Below.refl w.heap.size w) (.cells #[.int .i64 k, .int .i64 a, .int .i64 b, .int .i64 t] 23)) (.cells #[.int .i64 k', .int .i64 a', .int .i64 b', .int .i64 t'] 23)
  have hsz : ((w.alloc (.cells #[.int .i64 k, .int .i64 a, .int .i64 b, .int .i64 t] 23)).alloc (.cells #[.int .i64 k', .int .i64 a', .int .i64 b', .int .i64 t'] 23)).heap.size = w.heap.size + 2 := by simp
  have HC := fun w => Lib.hid (rCommutes_c k a b t k' a' b' t' w)
  have HTx := fun w => Lib.hid (rType_c k a b t w)
  have HTy := fun w => Lib.hid (rType_c k' a' b' t' w)
  obtain ⟨i1, i2, i3, i4, _, _, _, _⟩ := x0.four
  obtain ⟨j1, j2, j3, j4, _, _, _, _⟩ := x1.four
  generalize hw0 : (w.alloc (.cells #[.int .i64 k, .int .i64 a, .int .i64 b, .int .i64 t] 23)).alloc (.cells #[.int .i64 k', .int .i64 a', .int .i64 b', .int .i64 t'] 23) = w0 at *
  have hG : Hid (∀ w1, Below w0.heap.size w0 w1 → (w1.cell? ⟨w.heap.size, 0, none⟩ = some (.int .i64 k) ∧ w1.cell? ⟨w.heap.size, 1, none⟩ = some (.int .i64 a) ∧ w1.cell? ⟨w.heap.size, 2, none⟩ = some (.int .i64 b) ∧ w1.cell? ⟨w.heap.size, 3, none⟩ = some (.int .i64 t)) ∧
      (w1.cell? ⟨w.heap.size + 1, 0, none⟩ = some (.int .i64 k') ∧ w1.cell? ⟨w.heap.size + 1, 1, none⟩ = some (.int .i64 a') ∧ w1.cell? ⟨w.heap.size + 1, 2, none⟩ = some (.int .i64 b') ∧ w1.cell? ⟨w.heap.size + 1, 3, none⟩ = some (.int .i64 t'))) := fun w1 hb1 => by
    obtain ⟨p1, p2, p3, p4, _, _, _, _⟩ := (x0.call hb1).four
    obtain ⟨q1, q2, q3, q4, _, _, _, _⟩ := (x1.call hb1).four
    exact ⟨⟨p1, p2, p3, p4⟩, q1, q2, q3, q4⟩
  have hCC : Below w0.heap.size w0 w0.drew := (Below.refl _ _).drew
  generalize rcommB k a b k' a' b' = m at HC HB
  rcases type_cases k a b k' a' b' with ⟨ht, hn⟩ | ⟨ht, rfl, hn⟩ | ⟨ht, rfl, rfl, hn⟩ | ⟨ht, rfl, rfl, rfl⟩
  all_goals
    rw [ht] at HB
    have HBo := HB.out
    clear ht x0 x1
    go_enter Try.func67, Try.ntmps67
    go_wp2_with (fail)
    clear i1 i2 i3 i4 j1 j2 j3 j4 hsz
    refine wp_region_low (hCC) (by kernel_rfl) (by kernel_rfl) ?_
    repeat (first
      | go_big_quiet_skip
      | (go_big_quiet_want
         apply Exists.intro
         refine And.intro (fun W hW => ?_) ?_
         · (obtain ⟨⟨p0, p1, p2, p3⟩, q0, q1, q2, q3⟩ := hG.out W hW)
           go_simp
           first
             | exact rfl
             | (first | (refine (HTx W).out.mono ?_; rintro e w1 ⟨rfl, hb1⟩; exact ⟨rfl, bl_call hW hb1⟩) | (refine (HTy W).out.mono ?_; rintro e w1 ⟨rfl, hb1⟩; exact ⟨rfl, bl_call hW hb1⟩) | (refine (HC W).out.mono ?_; rintro e w1 ⟨rfl, hb1⟩; exact ⟨rfl, bl_call hW hb1⟩))
         try go_simp
         go_big_quiet_on))
    refine wpQuiet_nil ?_
    intro w9 hb9
    go_wp2_with (fail)
    go_ret
    exact ⟨by rw [HBo]; rfl, bl_call hb0 hb9⟩
end Go.Proofs.Yteoajadcdjaalaa
