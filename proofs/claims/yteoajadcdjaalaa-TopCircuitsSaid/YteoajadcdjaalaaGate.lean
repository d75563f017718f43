/- Contracts of the small functions on gates: package circuit's and the specification's. -/
import Derived.Test.YteoajadcdjaalaaProg
import Derived.Test.YteoajadcdjaalaaMod
import Derived.WalkLawsBesides
import Derived.BigQuiet
import Derived.Deep.QuietTactic
import Derived.Deep.RegionWith
import Derived.Lib.Hide
import Derived.StillTailTactics
namespace Go.Proofs.Yteoajadcdjaalaa
open Go.RowKit

/-- A gate: kind, qubits, angle. -/
abbrev G := Int × Int × Int × Int
def enc (g : G) : Value := .agg #[.int .i64 g.1, .int .i64 g.2.1, .int .i64 g.2.2.1, .int .i64 g.2.2.2]
theorem Bx.four {w : World} {g : Nat} {T : TypeId} {u v x y : Value} (h : Bx w g T #[u, v, x, y]) :
    w.cell? ⟨g, 0, none⟩ = some u ∧ w.cell? ⟨g, 1, none⟩ = some v ∧ w.cell? ⟨g, 2, none⟩ = some x ∧ w.cell? ⟨g, 3, none⟩ = some y ∧ w.frozen? ⟨g, 0, none⟩ = false ∧ w.frozen? ⟨g, 1, none⟩ = false ∧ w.frozen? ⟨g, 2, none⟩ = false ∧ w.frozen? ⟨g, 3, none⟩ = false :=
  ⟨h.cell 0, h.cell 1, h.cell 2, h.cell 3, h.free 0, h.free 1, h.free 2, h.free 3⟩

theorem Bx.rd {w : World} {g : Nat} {T : TypeId} {cs : List Value} (h : Bx w g T cs.toArray) : Rd w (some ⟨g, 0, none⟩) cs := by
  refine .inr ⟨g, 0, rfl, Bx.lt h, fun k v hv => ?_⟩
  rw [Nat.zero_add, Bx.cell h k]; simpa using hv

def inB (n lo hi : Int) : Bool := decide (lo ≤ n) && decide (n ≤ hi)
theorem inB_z {n lo hi : Int} : inB n lo hi = true ↔ lo ≤ n ∧ n ≤ hi := by simp [inB]
def meetB (a b a' b' : Int) : Bool := a == a' || a == b' || b == a' || (b == b' && b != -1)
def commB (k a b k' a' b' : Int) : Bool := !meetB a b a' b' || ((k == 1) == (k' == 1))
def isGateB (n k a b t : Int) : Bool := decide (1 ≤ t) && decide (t < 16) && (if k == 0 || k == 1 then decide (0 ≤ a) && decide (a < n) && b == -1 else if k == 2 then decide (0 ≤ a) && decide (a < b) && decide (b < n) else false)

theorem within_c (n lo hi : Int) (w : World) : Calls Try.prog 64 #[.int .i64 n, .int .i64 lo, .int .i64 hi] w fun e w' => e = .returned (.bool (inB n lo hi)) ∧ w = w' := by
  by_cases h1 : lo ≤ n
  · by_cases h2 : n ≤ hi
    · go_enter Try.func64, Try.ntmps64
      go_wp2
      go_ret
      exact ⟨by simp [inB]; omega, rfl⟩
    · go_enter Try.func64, Try.ntmps64
      go_wp2
      go_ret
      exact ⟨by simp [inB]; omega, rfl⟩
  · go_enter Try.func64, Try.ntmps64
    go_wp2
    go_ret
    exact ⟨by simp [inB]; omega, rfl⟩

set_option maxHeartbeats 1000000 in
theorem meet_c (k a b t k' a' b' t' : Int) (w : World) : Calls Try.prog 87 #[.agg #[.int .i64 k, .int .i64 a, .int .i64 b, .int .i64 t], .agg #[.int .i64 k', .int .i64 a', .int .i64 b', .int .i64 t']] w
    fun e w' => e = .returned (.bool (meetB a b a' b')) ∧ Below w.heap.size w w' := by
  go_enter Try.func87, Try.ntmps87
  go_wp2
  all_goals
    go_ret
    exact ⟨ret_b (by simp [meetB, *]), bl_alloc (bl_alloc (Below.refl _ _) _) _⟩
set_option maxHeartbeats 1000000 in
theorem isGate_c (n k a b t : Int) (w : World) : Calls Try.prog 86 #[.int .i64 n, .agg #[.int .i64 k, .int .i64 a, .int .i64 b, .int .i64 t]] w fun e w' => e = .returned (.bool (isGateB n k a b t)) ∧ Below w.heap.size w w' := by
  go_enter Try.func86, Try.ntmps86
  go_wp2
  all_goals
    go_ret
    refine ⟨ret_b ?_, bl_alloc (Below.refl _ _) _⟩
    (simp [isGateB, *]) <;> (try omega)

theorem commute_c (k a b t k' a' b' t' : Int) (w : World) : Calls Try.prog 56 #[.agg #[.int .i64 k, .int .i64 a, .int .i64 b, .int .i64 t], .agg #[.int .i64 k', .int .i64 a', .int .i64 b', .int .i64 t']] w
    fun e w' => e = .returned (.bool (commB k a b k' a' b')) ∧ Below w.heap.size w w' := by
  have x0 := (Bx.new w 23 #[.int .i64 k, .int .i64 a, .int .i64 b, .int .i64 t]).alloc (.cells #[.int .i64 k', .int .i64 a', .int .i64 b', .int .i64 t'] 23)
  have x1 : Bx ((w.alloc (.cells #[.int .i64 k, .int .i64 a, .int .i64 b, .int .i64 t] 23)).alloc (.cells #[.int .i64 k', .int .i64 a', .int .i64 b', .int .i64 t'] 23)) (w.heap.size + 1) 23 #[.int .i64 k', .int .i64 a', .int .i64 b', .int .i64 t'] := Bx.newAt (by simp)
  have hb0 := bl_alloc (bl_alloc (Below.refl w.heap.size w) (.cells #[.int .i64 k, .int .i64 a, .int .i64 b, .int .i64 t] 23)) (.cells #[.int .i64 k', .int .i64 a', .int .i64 b', .int .i64 t'] 23)
  have HM := fun w => Lib.hid (meet_c k a b t k' a' b' t' w)
  have HC : Hid (commB k a b k' a' b' = (!meetB a b a' b' || ((k == 1) == (k' == 1)))) := rfl
  generalize meetB a b a' b' = m at HM HC
  go_enter Try.func56, Try.ntmps56
  go_wp2_with (fail)
  refine (HM _).out.mono ?_
  rintro e w1 ⟨rfl, hb1⟩
  obtain ⟨i1, i2, i3, i4, _, _, _, _⟩ := (x0.call hb1).four
  obtain ⟨j1, j2, j3, j4, _, _, _, _⟩ := (x1.call hb1).four
  cases m
  all_goals
    go_wp2_with (fail)
    all_goals
      go_ret
      exact ⟨ret_b (by rw [HC.out]; simp [*]), bl_call hb0 hb1⟩

theorem typeOf_c (k a b t : Int) (w : World) : Calls Try.prog 97 #[.agg #[.int .i64 k, .int .i64 a, .int .i64 b, .int .i64 t]] w
    fun e w' => e = .returned (.agg #[.int .i64 k, .int .i64 a, .int .i64 b, .int .i64 0]) ∧ Below w.heap.size w w' := by
  go_enter Try.func97, Try.ntmps97
  go_wp2
  exact bodyPost_ret (v := .agg #[.int .i64 k, .int .i64 a, .int .i64 b, .int .i64 0]) (by simp [results, Try.results97, go_sem]) rfl ⟨rfl, by repeat (first | exact Below.refl _ _ | refine bl_alloc ?_ _ | refine bl_set ?_ (by simp) _)⟩
def typeB (k a b k' a' b' : Int) : Bool := k == k' && a == a' && b == b'
set_option maxRecDepth 100000 in
set_option maxHeartbeats 1000000 in
theorem sameType_c (k a b t k' a' b' t' : Int) (w : World) : Calls Try.prog 78 #[.agg #[.int .i64 k, .int .i64 a, .int .i64 b, .int .i64 t], .agg #[.int .i64 k', .int .i64 a', .int .i64 b', .int .i64 t']] w
    fun e w' => e = .returned (.bool (typeB k a b k' a' b')) ∧ Below w.heap.size w w' := by
  have hc : (k == k') = false ∨ (k = k' ∧ (a == a') = false) ∨ (k = k' ∧ a = a' ∧ (b == b') = false) ∨ (k = k' ∧ a = a' ∧ b = b') := by
    by_cases h1 : k = k'
    · by_cases h2 : a = a'
      · by_cases h3 : b = b'
        · exact .inr (.inr (.inr ⟨h1, h2, h3⟩))
        · exact .inr (.inr (.inl ⟨h1, h2, by simpa using h3⟩))
      · exact .inr (.inl ⟨h1, by simpa using h2⟩)
    · exact .inl (by simpa using h1)
  rcases hc with hn | ⟨rfl, hn⟩ | ⟨rfl, rfl, hn⟩ | ⟨rfl, rfl, rfl⟩
  · have x0 := (Bx.new w 23 #[.int .i64 k, .int .i64 a, .int .i64 b, .int .i64 t]).alloc (.cells #[.int .i64 k', .int .i64 a', .int .i64 b', .int .i64 t'] 23)
    have x1 : Bx ((w.alloc (.cells #[.int .i64 k, .int .i64 a, .int .i64 b, .int .i64 t] 23)).alloc (.cells #[.int .i64 k', .int .i64 a', .int .i64 b', .int .i64 t'] 23)) (w.heap.size + 1) 23 #[.int .i64 k', .int .i64 a', .int .i64 b', .int .i64 t'] := Bx.newAt (by simp)
    have hb0 := bl_alloc (bl_alloc (Below.refl w.heap.size w) (.cells #[.int .i64 k, .int .i64 a, .int .i64 b, .int .i64 t] 23)) (.cells #[.int .i64 k', .int .i64 a', .int .i64 b', .int .i64 t'] 23)
    have hsz : ((w.alloc (.cells #[.int .i64 k, .int .i64 a, .int .i64 b, .int .i64 t] 23)).alloc (.cells #[.int .i64 k', .int .i64 a', .int .i64 b', .int .i64 t'] 23)).heap.size = w.heap.size + 2 := by simp
    have HB : Hid (typeB k a b k' a' b' = (k == k' && a == a' && b == b')) := rfl
    obtain ⟨i1, i2, i3, i4, _, _, _, _⟩ := x0.four
    obtain ⟨j1, j2, j3, j4, _, _, _, _⟩ := x1.four
    go_enter Try.func78, Try.ntmps78
    go_wp2_with (fail)
    generalize (w.alloc (.cells #[.int .i64 k, .int .i64 a, .int .i64 b, .int .i64 t] 23)).alloc (.cells #[.int .i64 k', .int .i64 a', .int .i64 b', .int .i64 t'] 23) = w0 at *
    have hbd := hb0.drew
    have xd0 := x0.drew
    have xd1 := x1.drew
    clear x0 x1 hb0 hsz
    go_region_with (go_at_call 97; refine (typeOf_c _ _ _ _ _).mono ?_; rintro e w3 ⟨rfl, hb3⟩; first
      | (have y0 := (xd0.call hb3).four; have y1 := (xd1.call hb3).four; have yb := bl_call hbd hb3)
      | (have zb := bl_call yb hb3))
    all_goals
      go_wp2_with (fail)
      go_ret
      exact ⟨ret_b (by rw [HB.out]; simp [hn]), zb⟩
  · have x0 := (Bx.new w 23 #[.int .i64 k, .int .i64 a, .int .i64 b, .int .i64 t]).alloc (.cells #[.int .i64 k, .int .i64 a', .int .i64 b', .int .i64 t'] 23)
    have x1 : Bx ((w.alloc (.cells #[.int .i64 k, .int .i64 a, .int .i64 b, .int .i64 t] 23)).alloc (.cells #[.int .i64 k, .int .i64 a', .int .i64 b', .int .i64 t'] 23)) (w.heap.size + 1) 23 #[.int .i64 k, .int .i64 a', .int .i64 b', .int .i64 t'] := Bx.newAt (by simp)
    have hb0 := bl_alloc (bl_alloc (Below.refl w.heap.size w) (.cells #[.int .i64 k, .int .i64 a, .int .i64 b, .int .i64 t] 23)) (.cells #[.int .i64 k, .int .i64 a', .int .i64 b', .int .i64 t'] 23)
    have hsz : ((w.alloc (.cells #[.int .i64 k, .int .i64 a, .int .i64 b, .int .i64 t] 23)).alloc (.cells #[.int .i64 k, .int .i64 a', .int .i64 b', .int .i64 t'] 23)).heap.size = w.heap.size + 2 := by simp
    have HB : Hid (typeB k a b k a' b' = (k == k && a == a' && b == b')) := rfl
    obtain ⟨i1, i2, i3, i4, _, _, _, _⟩ := x0.four
    obtain ⟨j1, j2, j3, j4, _, _, _, _⟩ := x1.four
    go_enter Try.func78, Try.ntmps78
    go_wp2_with (fail)
    generalize (w.alloc (.cells #[.int .i64 k, .int .i64 a, .int .i64 b, .int .i64 t] 23)).alloc (.cells #[.int .i64 k, .int .i64 a', .int .i64 b', .int .i64 t'] 23) = w0 at *
    have hbd := hb0.drew
    have xd0 := x0.drew
    have xd1 := x1.drew
    clear x0 x1 hb0 hsz
    go_region_with (go_at_call 97; refine (typeOf_c _ _ _ _ _).mono ?_; rintro e w3 ⟨rfl, hb3⟩; first
      | (have y0 := (xd0.call hb3).four; have y1 := (xd1.call hb3).four; have yb := bl_call hbd hb3)
      | (have zb := bl_call yb hb3))
    all_goals
      go_wp2_with (fail)
      go_ret
      exact ⟨ret_b (by rw [HB.out]; simp [hn]), zb⟩
  · have x0 := (Bx.new w 23 #[.int .i64 k, .int .i64 a, .int .i64 b, .int .i64 t]).alloc (.cells #[.int .i64 k, .int .i64 a, .int .i64 b', .int .i64 t'] 23)
    have x1 : Bx ((w.alloc (.cells #[.int .i64 k, .int .i64 a, .int .i64 b, .int .i64 t] 23)).alloc (.cells #[.int .i64 k, .int .i64 a, .int .i64 b', .int .i64 t'] 23)) (w.heap.size + 1) 23 #[.int .i64 k, .int .i64 a, .int .i64 b', .int .i64 t'] := Bx.newAt (by simp)
    have hb0 := bl_alloc (bl_alloc (Below.refl w.heap.size w) (.cells #[.int .i64 k, .int .i64 a, .int .i64 b, .int .i64 t] 23)) (.cells #[.int .i64 k, .int .i64 a, .int .i64 b', .int .i64 t'] 23)
    have hsz : ((w.alloc (.cells #[.int .i64 k, .int .i64 a, .int .i64 b, .int .i64 t] 23)).alloc (.cells #[.int .i64 k, .int .i64 a, .int .i64 b', .int .i64 t'] 23)).heap.size = w.heap.size + 2 := by simp
    have HB : Hid (typeB k a b k a b' = (k == k && a == a && b == b')) := rfl
    obtain ⟨i1, i2, i3, i4, _, _, _, _⟩ := x0.four
    obtain ⟨j1, j2, j3, j4, _, _, _, _⟩ := x1.four
    go_enter Try.func78, Try.ntmps78
    go_wp2_with (fail)
    generalize (w.alloc (.cells #[.int .i64 k, .int .i64 a, .int .i64 b, .int .i64 t] 23)).alloc (.cells #[.int .i64 k, .int .i64 a, .int .i64 b', .int .i64 t'] 23) = w0 at *
    have hbd := hb0.drew
    have xd0 := x0.drew
    have xd1 := x1.drew
    clear x0 x1 hb0 hsz
    go_region_with (go_at_call 97; refine (typeOf_c _ _ _ _ _).mono ?_; rintro e w3 ⟨rfl, hb3⟩; first
      | (have y0 := (xd0.call hb3).four; have y1 := (xd1.call hb3).four; have yb := bl_call hbd hb3)
      | (have zb := bl_call yb hb3))
    all_goals
      go_wp2_with (fail)
      go_ret
      exact ⟨ret_b (by rw [HB.out]; simp [hn]), zb⟩
  · have x0 := (Bx.new w 23 #[.int .i64 k, .int .i64 a, .int .i64 b, .int .i64 t]).alloc (.cells #[.int .i64 k, .int .i64 a, .int .i64 b, .int .i64 t'] 23)
    have x1 : Bx ((w.alloc (.cells #[.int .i64 k, .int .i64 a, .int .i64 b, .int .i64 t] 23)).alloc (.cells #[.int .i64 k, .int .i64 a, .int .i64 b, .int .i64 t'] 23)) (w.heap.size + 1) 23 #[.int .i64 k, .int .i64 a, .int .i64 b, .int .i64 t'] := Bx.newAt (by simp)
    have hb0 := bl_alloc (bl_alloc (Below.refl w.heap.size w) (.cells #[.int .i64 k, .int .i64 a, .int .i64 b, .int .i64 t] 23)) (.cells #[.int .i64 k, .int .i64 a, .int .i64 b, .int .i64 t'] 23)
    have hsz : ((w.alloc (.cells #[.int .i64 k, .int .i64 a, .int .i64 b, .int .i64 t] 23)).alloc (.cells #[.int .i64 k, .int .i64 a, .int .i64 b, .int .i64 t'] 23)).heap.size = w.heap.size + 2 := by simp
    have HB : Hid (typeB k a b k a b = (k == k && a == a && b == b)) := rfl
    obtain ⟨i1, i2, i3, i4, _, _, _, _⟩ := x0.four
    obtain ⟨j1, j2, j3, j4, _, _, _, _⟩ := x1.four
    go_enter Try.func78, Try.ntmps78
    go_wp2_with (fail)
    generalize (w.alloc (.cells #[.int .i64 k, .int .i64 a, .int .i64 b, .int .i64 t] 23)).alloc (.cells #[.int .i64 k, .int .i64 a, .int .i64 b, .int .i64 t'] 23) = w0 at *
    have hbd := hb0.drew
    have xd0 := x0.drew
    have xd1 := x1.drew
    clear x0 x1 hb0 hsz
    go_region_with (go_at_call 97; refine (typeOf_c _ _ _ _ _).mono ?_; rintro e w3 ⟨rfl, hb3⟩; first
      | (have y0 := (xd0.call hb3).four; have y1 := (xd1.call hb3).four; have yb := bl_call hbd hb3)
      | (have zb := bl_call yb hb3))
    all_goals
      go_wp2_with (fail)
      go_ret
      exact ⟨ret_b (by rw [HB.out]; simp), zb⟩

theorem isNaN_c (x : Int) (w : World) : Calls Try.prog 116 #[.int .i64 x] w fun e w' => e = .returned (.bool false) ∧ w = w' := by
  go_enter Try.func116, Try.ntmps116
  go_wp2
  go_ret
  exact ⟨by simp, rfl⟩
def cmpI (x y : Int) : Int := if x < y then -1 else if y < x then 1 else 0
theorem cmp_c (x y : Int) (w : World) : Calls Try.prog 103 #[.int .i64 x, .int .i64 y] w fun e w' => e = .returned (.int .i64 (cmpI x y)) ∧ w = w' := by
  by_cases h1 : x < y
  · go_enter Try.func103, Try.ntmps103
    go_wp2_with (go_at_call 116; refine (isNaN_c _ _).mono ?_; rintro e w' ⟨rfl, rfl⟩)
    go_ret
    exact ⟨ret_i (by unfold cmpI; rw [if_pos (by omega)]), rfl⟩
  · by_cases h2 : y < x
    · go_enter Try.func103, Try.ntmps103
      go_wp2_with (go_at_call 116; refine (isNaN_c _ _).mono ?_; rintro e w' ⟨rfl, rfl⟩)
      go_ret
      exact ⟨ret_i (by unfold cmpI; rw [if_neg (by omega), if_pos (by omega)]), rfl⟩
    · go_enter Try.func103, Try.ntmps103
      go_wp2_with (go_at_call 116; refine (isNaN_c _ _).mono ?_; rintro e w' ⟨rfl, rfl⟩)
      go_ret
      exact ⟨ret_i (by unfold cmpI; rw [if_neg (by omega), if_neg (by omega)]), rfl⟩

/-- The first number that is not 0; else 0. -/
def orL : List Int → Int
  | [] => 0
  | x :: t => if x != 0 then x else orL t
theorem orL_skip : ∀ (xs : List Int) (k : Nat), (∀ j, j < k → xs.getD j 0 = 0) → orL xs = orL (xs.drop k)
  | xs, 0, _ => rfl
  | [], k + 1, _ => by simp
  | x :: t, k + 1, h => by
    have h0 : x = 0 := h 0 (by omega)
    rw [orL, h0, List.drop_succ_cons]
    exact orL_skip t k (fun j hj => h (j + 1) (by omega))
set_option maxHeartbeats 1000000 in
theorem or_c (A : Option Addr) (xs : List Int) (cap : Nat) (w : World) (hlen : xs.length ≤ 1000) (hr : Rd w A (ints xs)) :
    Calls Try.prog 102 #[.slice A xs.length cap] w fun e w' => e = .returned (.int .i64 (orL xs)) ∧ w = w' := by
  go_enter Try.func102, Try.ntmps102
  go_wp2
  go_loop [8] (fun i => ∃ k : Nat, k ≤ xs.length ∧ i = .int .i64 k ∧ Hid (∀ j, j < k → xs.getD j 0 = 0)) (fun i => xs.length - (intOf i).toNat)
  case atStart => exact ⟨0, Nat.zero_le _, rfl, fun j h => by omega⟩
  case round =>
    obtain ⟨k, hk, rfl, hz⟩ := hrel
    by_cases hlt : k < xs.length
    · obtain ⟨b, o, rfl, _, hc⟩ := hr.at_ (k := k) (by simpa using hlt)
      have hck := hc k _ (ints_get hlt)
      clear hc
      have H1 : Hid (∀ y, xs.getD k 0 = y → y = 0 → ∀ j, j < k + 1 → xs.getD j 0 = 0) := fun y hy h0 j hj => by
        rcases Nat.lt_or_ge j k with h | h
        · exact hz.out j h
        · rw [show j = k by omega, hy, h0]
      have H2 : Hid (∀ y, xs.getD k 0 = y → (y != 0) = true → orL xs = y) := fun y hy h0 => by
        rw [orL_skip xs k hz.out, List.drop_eq_getElem_cons hlt, orL]
        have e : xs[k] = y := by simpa [hlt] using hy
        rw [e, if_pos h0]
      generalize hx : xs.getD k 0 = x at hck
      have HX := Lib.hid hx
      clear hx
      by_cases h0 : (x != 0) = true
      · go_wp2
        go_ret
        exact ⟨ret_i (H2.out x HX.out h0), rfl⟩
      · have h0' : (x != 0) = false := by simpa using h0
        clear h0
        go_wp2
        go_round
        case rel => exact ⟨k + 1, by omega, by go_num, H1.out x HX.out (by simpa using h0')⟩
        case measure => simp [intOf]; omega
    · obtain rfl : k = xs.length := by omega
      go_wp2
      go_ret
      exact ⟨ret_i (by rw [orL_skip xs xs.length hz.out, List.drop_length]; rfl), rfl⟩
/-- How two gates compare. -/
def cmpG (k a b t k' a' b' t' : Int) : Int := orL [cmpI k k', cmpI a a', cmpI b b', cmpI t t']

set_option maxRecDepth 100000 in
set_option maxHeartbeats 1000000 in
theorem compare_c (k a b t k' a' b' t' : Int) (w : World) : Calls Try.prog 94 #[.agg #[.int .i64 k, .int .i64 a, .int .i64 b, .int .i64 t], .agg #[.int .i64 k', .int .i64 a', .int .i64 b', .int .i64 t']] w
    fun e w' => e = .returned (.int .i64 (cmpG k a b t k' a' b' t')) ∧ Below w.heap.size w w' := by
  have x0 := (Bx.new w 23 #[.int .i64 k, .int .i64 a, .int .i64 b, .int .i64 t]).alloc (.cells #[.int .i64 k', .int .i64 a', .int .i64 b', .int .i64 t'] 23)
  have x1 : Bx ((w.alloc (.cells #[.int .i64 k, .int .i64 a, .int .i64 b, .int .i64 t] 23)).alloc (.cells #[.int .i64 k', .int .i64 a', .int .i64 b', .int .i64 t'] 23)) (w.heap.size + 1) 23 #[.int .i64 k', .int .i64 a', .int .i64 b', .int .i64 t'] := Bx.newAt (by simp)
  have hb0 := bl_alloc (bl_alloc (Below.refl w.heap.size w) (.cells #[.int .i64 k, .int .i64 a, .int .i64 b, .int .i64 t] 23)) (.cells #[.int .i64 k', .int .i64 a', .int .i64 b', .int .i64 t'] 23)
  obtain ⟨i1, i2, i3, i4, _, _, _, _⟩ := x0.four
  obtain ⟨j1, j2, j3, j4, _, _, _, _⟩ := x1.four
  go_enter Try.func94, Try.ntmps94
  go_wp2_with (fail)
  generalize (w.alloc (.cells #[.int .i64 k, .int .i64 a, .int .i64 b, .int .i64 t] 23)).alloc (.cells #[.int .i64 k', .int .i64 a', .int .i64 b', .int .i64 t'] 23) = w0 at *
  refine wp_region_still_tail 20 (by kernel_rfl) (by kernel_rfl) ?_
  simp only [List.take_succ_cons, List.take_zero, List.drop_succ_cons, List.drop_zero]
  repeat still_step
  still_call ((cmp_c _ _ _).mono fun e w' h => ⟨h.1, h.2.symm⟩)
  repeat still_step
  still_call ((cmp_c _ _ _).mono fun e w' h => ⟨h.1, h.2.symm⟩)
  repeat still_step
  still_call ((cmp_c _ _ _).mono fun e w' h => ⟨h.1, h.2.symm⟩)
  repeat still_step
  still_call ((cmp_c _ _ _).mono fun e w' h => ⟨h.1, h.2.symm⟩)
  repeat still_step
  refine wpStill_nil ?_
  change wpList _ _ _ _ _ w0.drew
  have hbd := hb0.drew
  clear i1 i2 i3 i4 j1 j2 j3 j4 x0 x1 hb0
  generalize w0.drew = w1 at *
  have HO := Lib.hid (or_c _ [cmpI k k', cmpI a a', cmpI b b', cmpI t t'] 4 _ (by simp) (Bx.rd (cs := ints [cmpI k k', cmpI a a', cmpI b b', cmpI t t']) (Bx.new w1 3 _)))
  go_wp2_with (fail)
  refine HO.out.mono ?_
  rintro e w' ⟨rfl, rfl⟩
  go_wp2_with (fail)
  go_ret
  exact ⟨rfl, bl_alloc hbd _⟩
end Go.Proofs.Yteoajadcdjaalaa
