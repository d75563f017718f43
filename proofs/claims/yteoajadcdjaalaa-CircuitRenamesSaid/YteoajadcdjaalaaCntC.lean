/- The program's count: the sets of gates before each gate, and the table. -/
import Derived.Test.YteoajadcdjaalaaCntB
namespace Go.Proofs.Yteoajadcdjaalaa
open Go.RowKit

theorem or_i64 (a b : Nat) (ha : a < 9223372036854775808) (hb : b < 9223372036854775808) : bits .or .i64 (a : Int) (b : Int) = ((a ||| b : Nat) : Int) := by
  have h : a ||| b < 2 ^ 63 := Nat.or_lt_two_pow (by omega) (by omega)
  have h1 : (BitVec.ofInt 64 (a : Int)).toNat = a := by rw [BitVec.toNat_ofInt]; omega
  have h2 : (BitVec.ofInt 64 (b : Int)).toNat = b := by rw [BitVec.toNat_ofInt]; omega
  show IntKind.wrap .i64 ((BitVec.ofInt 64 (a : Int) ||| BitVec.ofInt 64 (b : Int)).toNat : Int) = _
  rw [BitVec.toNat_or, h1, h2]
  simp [IntKind.wrap, IntKind.bits, IntKind.signed]
  omega

/-- The row of the sets while the gate i is under way. -/
def bfRow (l : List G) (i j : Nat) : List Int := rowF l.length fun a => if a < i then (bfX l a a : Int) else if a = i then (bfX l i j : Int) else 0
def bfL (l : List G) : List Int := rowF l.length fun a => (bfX l a a : Int)
theorem bfRow_zero (l : List G) : List.replicate l.length 0 = bfRow l 0 0 := by
  rw [rowF_zero]; refine rowF_congr fun a _ => ?_
  by_cases h : a = 0 <;> simp [h, bfX]
theorem bfRow_next (l : List G) (i : Nat) : bfRow l i i = bfRow l (i + 1) 0 := rowF_congr fun a _ => by
  by_cases h : a < i
  · rw [if_pos h, if_pos (by omega)]
  · by_cases h2 : a = i
    · subst h2; rw [if_neg (by omega), if_pos rfl, if_pos (by omega)]
    · rw [if_neg h, if_neg h2, if_neg (by omega)]; simp [bfX]
theorem bfRow_all (l : List G) : bfRow l l.length 0 = bfL l := rowF_congr fun a h => by rw [if_pos h]
theorem bfRow_at {l : List G} {i j : Nat} (h : i < l.length) : (bfRow l i j).getD i 0 = (bfX l i j : Int) := by rw [bfRow, rowF_get h]; simp
theorem bfRow_set (l : List G) (i j j' : Nat) : (bfRow l i j).set i (bfX l i j' : Int) = bfRow l i j' :=
  rowF_set (by simp) fun a _ h => by simp [h]
theorem bfRow_len (l : List G) (i j : Nat) : (bfRow l i j).length = l.length := rowF_len _ _

set_option maxRecDepth 100000 in
set_option maxHeartbeats 2000000 in
theorem befores_c (A : Option Addr) (l : List G) (c : Nat) (w : World) (hlen : l.length ≤ 10) (hr : Rd w A (cellsG l)) :
    Calls Try.prog 92 #[.slice A l.length c] w fun e w' => e = .returned (.slice (some ⟨w.heap.size, 0, none⟩) l.length l.length) ∧ Row w' w.heap.size (bfL l) ∧ Below w.heap.size w w' := by
  obtain ⟨cs, hmk, hcs⟩ := make_ints l.length (by omega) w
  have hR0 : Row (w.alloc (.cells cs 3)) w.heap.size (bfRow l 0 0) := by rw [hcs, bfRow_zero]; exact Bx.new w _ _
  have hbl : Below w.heap.size w (w.alloc (.cells cs 3)) := bl_alloc (Below.refl _ _) _
  clear hcs
  go_enter Try.func92, Try.ntmps92
  go_wp2_with (fail)
  go_loopg [11] l.length (fun gk iv wr => ∃ i : Nat, i + gk = l.length ∧ iv = .int .i64 (i : Int) ∧ Row wr w.heap.size (bfRow l i 0) ∧ Below w.heap.size w wr)
  case atStart => exact ⟨0, by omega, rfl, hR0, hbl⟩
  case round =>
    obtain ⟨i, hi, rfl, hrow, hb⟩ := hrel
    clear hR0 hbl hmk
    rcases gk with _ | gi
    · obtain rfl : i = l.length := by omega
      rw [bfRow_all] at hrow
      go_wp2_with (fail)
      go_ret
      exact ⟨rfl, hrow, hb⟩
    · have hil : i < l.length := by omega
      have hil' : (i : Int) < (l.length : Int) := by omega
      have HT := fun (j : Nat) (hj : j < l.length) (w1 : World) (hb1 : Below w.heap.size w w1) => Lib.hid (tied_c A l c j i w1 (by omega) hj hil (hr.later hb1))
      go_wp2_with (fail)
      go_loopg [15] i (fun gk jv wi => ∃ j : Nat, j + gk = i ∧ jv = .int .i64 (j : Int) ∧ Row wi w.heap.size (bfRow l i j) ∧ Below w.heap.size w wi)
      case atStart => exact ⟨0, by omega, rfl, hrow, hb⟩
      case round =>
        obtain ⟨j, hj, rfl, hrow2, hb2⟩ := hrel
        rcases gk with _ | gj
        · obtain rfl : j = i := by omega
          rw [bfRow_next l] at hrow2
          go_wp2_with (fail)
          go_roundg gi
          case rel => exact ⟨j + 1, by omega, by go_num, hrow2, hb2⟩
          case measure => omega
        · have hji : (j : Int) < (i : Int) := by omega
          have HT1 := HT j (by omega) _ hb2
          have HE : Hid (bfX l i (j + 1) = if tiedG (l.getD j g0) (l.getD i g0) then bfX l i j ||| 2 ^ j else bfX l i j) := rfl
          have HL := bfRow_len l i j
          have HR1 := bfX_lt l i j
          generalize tiedG (l.getD j g0) (l.getD i g0) = tb at HT1 HE
          cases tb with
          | true =>
            go_wp2_with (fail)
            refine HT1.out.mono ?_
            rintro e w7 ⟨rfl, hb7⟩
            have hrow7 : Row w7 w.heap.size (bfRow l i j) := Bx.call hrow2 hb7
            have q1 := hrow7.get (k := i) (by omega)
            rw [bfRow_at hil] at q1
            have q3 := Bx.free hrow7 i
            have hset := hrow7.set i (bfX l i (j + 1) : Int)
            have hE : bfX l i (j + 1) = bfX l i j ||| 2 ^ j := by have h := HE.out; simpa using h
            rw [bfRow_set] at hset
            have hpj : 2 ^ j ≤ 2 ^ 10 := Nat.pow_le_pow_right (by omega) (by omega)
            have horn := or_i64 (bfX l i j) (2 ^ j) (by omega) (by omega)
            rw [← hE] at horn
            clear hE HE
            have hb8 := bl_call hb2 hb7
            have hbs := bl_set hb8 (Nat.le_refl w.heap.size) (i := i) (.int .i64 (bfX l i (j + 1) : Int))
            have hj64 : (j : Int) ≤ 64 := by omega
            have hsh : IntKind.i64.wrap ((2 : Int) ^ j) = ((2 ^ j : Nat) : Int) := by
              rw [Int.natCast_pow]; simp [IntKind.wrap, IntKind.bits, IntKind.signed]
              have : ((2 ^ j : Nat) : Int) = (2 : Int) ^ j := by simp
              omega
            generalize bfX l i j = cur at *
            generalize bfX l i (j + 1) = nxt at *
            generalize 2 ^ j = s at *
            go_wp2_with (fail)
            go_region
            go_wp2_with (fail)
            go_roundg gj
            case rel => exact ⟨j + 1, by omega, by go_num, Bx.drew hset, hbs.drew⟩
            case measure => omega
          | false =>
            go_wp2_with (fail)
            refine HT1.out.mono ?_
            rintro e w7 ⟨rfl, hb7⟩
            have hrow7 : Row w7 w.heap.size (bfRow l i j) := Bx.call hrow2 hb7
            have hE : bfRow l i (j + 1) = bfRow l i j := by have h := HE.out; simp at h; rw [bfRow, bfRow, h]
            rw [← hE] at hrow7
            clear hE HE
            go_wp2_with (fail)
            go_roundg gj
            case rel => exact ⟨j + 1, by omega, by go_num, hrow7, bl_call hb2 hb7⟩
            case measure => omega
end Go.Proofs.Yteoajadcdjaalaa
