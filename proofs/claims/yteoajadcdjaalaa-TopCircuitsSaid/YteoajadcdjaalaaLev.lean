/- The number of each gate's layer. -/
import Derived.Test.YteoajadcdjaalaaTied
import Derived.Deep.LoopGhost
namespace Go.Proofs.Yteoajadcdjaalaa
open Go.RowKit

def Row (w : World) (g : Nat) (xs : List Int) : Prop := Bx w g 3 (ints xs).toArray
section
variable {w w' : World} {g : Nat} {xs : List Int}
theorem Row.get (h : Row w g xs) {k : Nat} (hk : k < xs.length) : w.cell? ⟨g, k, none⟩ = some (.int .i64 (xs.getD k 0)) := by
  rw [Bx.cell h k]; simp [ints, hk]
theorem Row.set (h : Row w g xs) (k : Nat) (v : Int) : Row (w.setCell ⟨g, k, none⟩ (.int .i64 v)) g (xs.set k v) := by
  have := Bx.set h k (.int .i64 v)
  have e : (ints xs).toArray.setIfInBounds k (.int .i64 v) = (ints (xs.set k v)).toArray := by simp [ints]
  rw [e] at this
  exact this
theorem Row.rd (h : Row w g xs) : Rd w (some ⟨g, 0, none⟩) (ints xs) := by
  refine .inr ⟨g, 0, rfl, Bx.lt h, fun k v hv => ?_⟩
  rw [Nat.zero_add, Bx.cell h k]; simpa using hv
end

/-- The level of the gate i, of the first j gates' levels p. -/
def lvTo (l : List G) (p : List Int) (i : Nat) : Nat → Int
  | 0 => 0
  | j + 1 => if tiedG (l.getD j g0) (l.getD i g0) then max (lvTo l p i j) (p.getD j 0 + 1) else lvTo l p i j
/-- The levels of the first i gates. -/
def lvL (l : List G) : Nat → List Int
  | 0 => []
  | i + 1 => lvL l i ++ [lvTo l (lvL l i) i i]
theorem lvL_len (l : List G) : ∀ i, (lvL l i).length = i
  | 0 => rfl
  | i + 1 => by simp [lvL, lvL_len l i]
theorem lvTo_range (l : List G) (p : List Int) (i : Nat) (hp : ∀ k, 0 ≤ p.getD k 0 ∧ p.getD k 0 ≤ k) : ∀ j, 0 ≤ lvTo l p i j ∧ lvTo l p i j ≤ j
  | 0 => by simp [lvTo]
  | j + 1 => by
    have h := lvTo_range l p i hp j
    have := hp j
    rw [lvTo]; split <;> omega
theorem lvL_range (l : List G) : ∀ i k, 0 ≤ (lvL l i).getD k 0 ∧ (lvL l i).getD k 0 ≤ k
  | 0, k => by simp [lvL]
  | i + 1, k => by
    have ih := lvL_range l i
    rw [lvL]
    by_cases h : k < i
    · have e : (lvL l i ++ [lvTo l (lvL l i) i i]).getD k 0 = (lvL l i).getD k 0 := by
        rw [List.getD_eq_getElem?_getD, List.getD_eq_getElem?_getD, List.getElem?_append_left (by rw [lvL_len]; exact h)]
      rw [e]; exact ih k
    · by_cases h2 : k = i
      · subst h2
        have e : (lvL l k ++ [lvTo l (lvL l k) k k]).getD k 0 = lvTo l (lvL l k) k k := by
          rw [List.getD_eq_getElem?_getD, List.getElem?_append_right (by rw [lvL_len]; omega), lvL_len]; simp
        rw [e]; exact lvTo_range l _ k ih k
      · have e : (lvL l i ++ [lvTo l (lvL l i) i i]).getD k 0 = 0 := by
          rw [List.getD_eq_getElem?_getD, List.getElem?_eq_none (by simp [lvL_len]; omega)]; rfl
        rw [e]; omega
/-- The row while the gate i is under way. -/
def lvRow (l : List G) (n i j : Nat) : List Int := (lvL l i ++ List.replicate (n - i) 0).set i (lvTo l (lvL l i) i j)
theorem lvRow_len (l : List G) {n i j : Nat} (h : i ≤ n) : (lvRow l n i j).length = n := by simp [lvRow, lvL_len]; omega
theorem lvRow_zero (l : List G) {n i : Nat} (h : i < n) : lvRow l n i 0 = lvL l i ++ List.replicate (n - i) 0 := by
  obtain ⟨m, hm⟩ : ∃ m, n - i = m + 1 := ⟨n - i - 1, by omega⟩
  rw [lvRow, lvTo, hm, List.replicate_succ, List.set_append_right _ _ (by rw [lvL_len]; omega), lvL_len]; simp
theorem lvRow_next (l : List G) {n i : Nat} (h : i < n) : lvRow l n i i = lvL l (i + 1) ++ List.replicate (n - (i + 1)) 0 := by
  obtain ⟨m, hm⟩ : ∃ m, n - i = m + 1 := ⟨n - i - 1, by omega⟩
  rw [lvRow, lvL, hm, List.replicate_succ, List.set_append_right _ _ (by rw [lvL_len]; omega), lvL_len, show n - (i + 1) = m by omega]; simp
theorem lvRow_get (l : List G) {n i j k : Nat} (hk : k < i) : (lvRow l n i j).getD k 0 = (lvL l i).getD k 0 := by
  rw [lvRow, List.getD_eq_getElem?_getD, List.getElem?_set_ne (by omega), List.getElem?_append_left (by rw [lvL_len]; exact hk), List.getD_eq_getElem?_getD]
theorem lvRow_at (l : List G) {n i j : Nat} (hi : i < n) : (lvRow l n i j).getD i 0 = lvTo l (lvL l i) i j := by
  rw [lvRow, List.getD_eq_getElem?_getD, List.getElem?_set_self (by simp [lvL_len]; omega)]; rfl
theorem lvRow_set (l : List G) (n i j j' : Nat) : (lvRow l n i j).set i (lvTo l (lvL l i) i j') = lvRow l n i j' := by
  rw [lvRow, List.set_set]; rfl

theorem int_info : (Try.prog.info? 3).map (fun i => (i.zero, i.size, i.bytes)) = some (some (.int .i64 0), 1, 8) := by kernel_rfl
theorem make_ints (n : Nat) (hn : n ≤ 100) (w : World) : ∃ cs, (Instr.makeSlice 46 (.int .i64 n) (.int .i64 n)).run Try.prog w = .ok (.slice (some ⟨w.heap.size, 0, none⟩) n n) (w.alloc (.cells cs 3)) ∧ cs = (ints (List.replicate n 0)).toArray := by
  obtain ⟨i0, hi, hz0, hz1, hz2⟩ := info_parts int_info
  have h := run_make (P := Try.prog) w 46 3 i0 _ Try.underlying46 hi hz0 .i64 .i64 (n : Int) (n : Int) (by omega) (by omega) (by rw [hz2]; omega) (by omega)
  simp only [Int.toNat_natCast] at h
  refine ⟨_, h, ?_⟩
  rw [hz1, Nat.mul_one]
  apply Array.ext
  · simp [size_madeCells, ints]
  · intro i h1 h2
    simp [madeCells, ints, Value.cells]
    rw [Nat.mod_one]; rfl

set_option maxRecDepth 100000 in
set_option maxHeartbeats 2000000 in
theorem levels_c (A : Option Addr) (l : List G) (c : Nat) (w : World) (hlen : l.length ≤ 100) (hr : Rd w A (cellsG l)) :
    Calls Try.prog 72 #[.slice A l.length c] w fun e w' => e = .returned (.slice (some ⟨w.heap.size, 0, none⟩) l.length l.length) ∧ Row w' w.heap.size (lvL l l.length) ∧ Below w.heap.size w w' := by
  obtain ⟨cs, hmk, hcs⟩ := make_ints l.length (by omega) w
  have hR0 : Row (w.alloc (.cells cs 3)) w.heap.size (lvL l 0 ++ List.replicate (l.length - 0) 0) := by rw [hcs]; exact Bx.new w _ _
  have hbl : Below w.heap.size w (w.alloc (.cells cs 3)) := bl_alloc (Below.refl _ _) _
  clear hcs
  go_enter Try.func72, Try.ntmps72
  go_wp2_with (fail)
  go_loopg [11] l.length (fun gk iv wr => ∃ i : Nat, i + gk = l.length ∧ iv = .int .i64 (i : Int) ∧ Row wr w.heap.size (lvL l i ++ List.replicate (l.length - i) 0) ∧ Below w.heap.size w wr)
  case atStart => exact ⟨0, by omega, rfl, hR0, hbl⟩
  case round =>
    obtain ⟨i, hi, rfl, hrow, hb⟩ := hrel
    clear hR0 hbl hmk
    rcases gk with _ | gi
    · obtain rfl : i = l.length := by omega
      rw [Nat.sub_self, List.replicate_zero, List.append_nil] at hrow
      go_wp2_with (fail)
      go_ret
      exact ⟨rfl, hrow, hb⟩
    · have hil : i < l.length := by omega
      have hil' : (i : Int) < (l.length : Int) := by omega
      rw [← lvRow_zero l hil] at hrow
      have HP := lvL_range l i
      have HT := fun (j : Nat) (hj : j < l.length) (w1 : World) (hb1 : Below w.heap.size w w1) => Lib.hid (tied_c A l c j i w1 (by omega) hj hil (hr.later hb1))
      go_wp2_with (fail)
      go_loopg [15] i (fun gk jv wi => ∃ j : Nat, j + gk = i ∧ jv = .int .i64 (j : Int) ∧ Row wi w.heap.size (lvRow l l.length i j) ∧ Below w.heap.size w wi)
      case atStart => exact ⟨0, by omega, rfl, hrow, hb⟩
      case round =>
        obtain ⟨j, hj, rfl, hrow2, hb2⟩ := hrel
        rcases gk with _ | gj
        · obtain rfl : j = i := by omega
          rw [lvRow_next l hil] at hrow2
          go_wp2_with (fail)
          go_roundg gi
          case rel => exact ⟨j + 1, by omega, by go_num, hrow2, hb2⟩
          case measure => omega
        · have hji : (j : Int) < (i : Int) := by omega
          have HT1 := HT j (by omega) _ hb2
          have HE : Hid (lvTo l (lvL l i) i (j + 1) = if tiedG (l.getD j g0) (l.getD i g0) then max (lvTo l (lvL l i) i j) ((lvL l i).getD j 0 + 1) else lvTo l (lvL l i) i j) := rfl
          have HL := lvRow_len l (n := l.length) (j := j) (show i ≤ l.length by omega)
          have HR1 := lvTo_range l (lvL l i) i HP j
          have HR2 := HP j
          generalize tiedG (l.getD j g0) (l.getD i g0) = tb at HT1 HE
          cases tb with
          | true =>
            go_wp2_with (fail)
            refine HT1.out.mono ?_
            rintro e w7 ⟨rfl, hb7⟩
            have hrow7 : Row w7 w.heap.size (lvRow l l.length i j) := Bx.call hrow2 hb7
            have q1 := hrow7.get (k := i) (by omega)
            have q2 := hrow7.get (k := j) (by omega)
            rw [lvRow_at l hil] at q1
            rw [lvRow_get l (by omega)] at q2
            have q3 := Bx.free hrow7 i
            have hset := hrow7.set i (lvTo l (lvL l i) i (j + 1))
            have hE : lvTo l (lvL l i) i (j + 1) = max (lvTo l (lvL l i) i j) ((lvL l i).getD j 0 + 1) := by have h := HE.out; simpa using h
            rw [lvRow_set, hE] at hset
            clear hE HE
            have hb8 := bl_call hb2 hb7
            have hbs := bl_set hb8 (Nat.le_refl w.heap.size) (i := i) (.int .i64 (max (lvTo l (lvL l i) i j) ((lvL l i).getD j 0 + 1)))
            have hjl : (j : Int) < (l.length : Int) := by omega
            generalize lvTo l (lvL l i) i j = cur at *
            generalize (lvL l i).getD j 0 = prev at *
            go_wp2_with (fail)
            go_region
            all_goals
              go_wp2_with (fail)
            all_goals
              first
                | (have hmx : max cur (prev + 1) = cur := by omega
                   rw [hmx] at hset hbs)
                | (have hmx : max cur (prev + 1) = prev + 1 := by omega
                   rw [hmx] at hset hbs)
              go_roundg gj
              case rel => exact ⟨j + 1, by omega, by go_num, Bx.drew hset, hbs.drew⟩
              case measure => omega
          | false =>
            go_wp2_with (fail)
            refine HT1.out.mono ?_
            rintro e w7 ⟨rfl, hb7⟩
            have hrow7 : Row w7 w.heap.size (lvRow l l.length i j) := Bx.call hrow2 hb7
            have hE : lvRow l l.length i (j + 1) = lvRow l l.length i j := by have h := HE.out; simp at h; rw [lvRow, lvRow, h]
            rw [← hE] at hrow7
            clear hE HE
            go_wp2_with (fail)
            go_roundg gj
            case rel => exact ⟨j + 1, by omega, by go_num, hrow7, bl_call hb2 hb7⟩
            case measure => omega
end Go.Proofs.Yteoajadcdjaalaa
