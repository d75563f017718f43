/- The name of a circuit; what is left of one. -/
import Derived.Test.YteoajadcdjaalaaTake
namespace Go.Proofs.Yteoajadcdjaalaa
open Go.RowKit

def nameTo (l : List G) : Nat → List G
  | 0 => l
  | k + 1 => takeL (nameTo l k) k (smallestL (nameTo l k) k)
def nameL (l : List G) : List G := nameTo l l.length
theorem nameTo_len (l : List G) : ∀ k, k ≤ l.length → (nameTo l k).length = l.length
  | 0, _ => rfl
  | k + 1, h => by
    have ih := nameTo_len l k (by omega)
    have hs := smallestL_lt (l := nameTo l k) (nx := k) (by omega)
    rw [nameTo, takeL_len hs.1 hs.2, ih]
theorem nameL_len (l : List G) : (nameL l).length = l.length := nameTo_len l _ (Nat.le_refl _)

def NmOut (base : Nat) (l : List G) (w : World) (e : Ending) (w' : World) : Prop :=
  ∃ A' c', e = .returned (.slice A' l.length c') ∧ w'.ownsRow base 23 4 (.slice A' l.length c') l.length (cellsG (nameL l)) ∧ Below base w w'

set_option maxRecDepth 100000 in
set_option maxHeartbeats 2000000 in
theorem nameOf_c (A : Option Addr) (l : List G) (c : Nat) (w : World) (hlen : l.length ≤ 100) (hr : Rd w A (cellsG l)) :
    Calls Try.prog 61 #[.slice A l.length c] w (NmOut w.heap.size l w) := by
  have HC := Lib.hid (clone_c A l c w (by omega) hr)
  go_enter Try.func61, Try.ntmps61
  go_wp2_with (fail)
  refine HC.out.mono ?_
  rintro e w1 ⟨B, d, rfl, ho1, hb1⟩
  have hal : Below w1.heap.size w1 (w1.alloc (.cells #[.slice B l.length d, .int .i64 0] 82)) := bl_alloc (Below.refl _ _) _
  have hx0 := Bx.new w1 82 #[.slice B l.length d, .int .i64 0]
  have ho2 := own_call ho1 hal
  have hb2 := bl_call hb1 hal
  have hg1 : w.heap.size ≤ w1.heap.size := hb1.size
  go_wp2_with (fail)
  go_loopg [] l.length (fun gk wr => ∃ k : Nat, k + gk = l.length ∧ Bx wr w1.heap.size 82 #[.slice B l.length d, .int .i64 (k : Int)] ∧ wr.ownsRow w.heap.size 23 4 (.slice B l.length d) l.length (cellsG (nameTo l k)) ∧ Below w.heap.size w wr)
  case atStart => exact ⟨0, by omega, hx0, ho2, hb2⟩
  case round =>
    obtain ⟨k, hk, hxr, hor, hbr⟩ := hrel
    clear hx0 ho1 ho2 hb2 hal
    obtain ⟨i1, i2, i3, i4⟩ := hxr.two
    rcases gk with _ | gi
    · obtain rfl : k = l.length := by omega
      go_wp2_with (fail)
      go_ret
      exact ⟨B, d, rfl, hor, hbr⟩
    · have hkl : (k : Int) < (l.length : Int) := by omega
      have hkn : k < l.length := by omega
      have hln := nameTo_len l k (by omega)
      have hor' : wr.ownsRow w.heap.size 23 4 (.slice B (nameTo l k).length d) (nameTo l k).length (cellsG (nameTo l k)) := by rw [hln]; exact hor
      have hxr' : Bx wr w1.heap.size 82 #[.slice B (nameTo l k).length d, .int .i64 (k : Int)] := by rw [hln]; exact hxr
      have HS := Lib.hid (smallest_c w1.heap.size B (nameTo l k) d k wr (by omega) (by omega) (own_rd hor').1 hxr')
      have hsl := smallestL_lt (l := nameTo l k) (nx := k) (by omega)
      have HT : Hid (∀ w2, Below wr.heap.size wr w2 → Calls Try.prog 89 #[.pointer (some ⟨w1.heap.size, 0, none⟩), .int .i64 ((smallestL (nameTo l k) k : Nat) : Int)] w2 fun e w' => e = .returned (.tuple #[]) ∧ w'.ownsRow w.heap.size 23 4 (.slice B l.length d) l.length (cellsG (nameTo l (k + 1))) ∧ Bx w' w1.heap.size 82 #[.slice B l.length d, .int .i64 ((k + 1 : Nat) : Int)] ∧ Below w.heap.size w2 w') := fun w2 hb2 => by
        have := take_c w.heap.size w1.heap.size B (nameTo l k) d k (smallestL (nameTo l k) k) w2 (by omega) hsl.1 hsl.2 hg1 (own_call hor' hb2) (hxr'.call hb2)
        rw [hln] at this
        exact this
      generalize smallestL (nameTo l k) k = S at *
      clear hor' hxr'
      go_wp2_with (fail)
      refine HS.out.mono ?_
      rintro e w2 ⟨rfl, hb2⟩
      go_wp2_with (fail)
      refine (HT.out w2 hb2).mono ?_
      rintro e w3 ⟨rfl, ho3, hx3, hb3⟩
      go_wp2_with (fail)
      go_roundg gi
      case rel => exact ⟨k + 1, by omega, hx3, ho3, (hbr.trans (hb2.mono hbr.size)).trans hb3⟩
      case measure => omega

theorem own_base {w : World} {base base' size n : Nat} {e : TypeId} {v : Value} {xs : List Value} (h : w.ownsRow base e size v n xs) (hb : base' ≤ base) : w.ownsRow base' e size v n xs := by
  refine ⟨h.1, ?_⟩
  rcases h.2 with hv | ⟨g, cap, cur, hv, hg, rest⟩
  · exact .inl hv
  · exact .inr ⟨g, cap, cur, hv, Nat.le_trans hb hg, rest⟩

def reducedL (l : List G) : List G := nameL (shortL l)
def redL (n : Int) (l : List G) : List G := if validE n l = 0 then reducedL l else []
def nmL (n : Int) (l : List G) : List G := if validE n l = 0 then nameL l else []
theorem reducedL_len (l : List G) : (reducedL l).length = (shortL l).length := nameL_len _

theorem reduced_c (A : Option Addr) (l : List G) (c : Nat) (w : World) (hlen : l.length ≤ 100) (hang : ∀ x ∈ l, Ang x) (hr : Rd w A (cellsG l)) :
    Calls Try.prog 75 #[.slice A l.length c] w fun e w' => ∃ A' c', e = .returned (.slice A' (reducedL l).length c') ∧ w'.ownsRow w.heap.size 23 4 (.slice A' (reducedL l).length c') (reducedL l).length (cellsG (reducedL l)) ∧ Below w.heap.size w w' := by
  have HS := Lib.hid (shortened_c A l c w hlen hang hr)
  have HL : Hid ((reducedL l).length = (shortL l).length) := reducedL_len l
  have HN := fun (B : Option Addr) (d : Nat) (w1 : World) (h : Rd w1 B (cellsG (shortL l))) => Lib.hid (nameOf_c B (shortL l) d w1 (Nat.le_trans (shortL_len l) hlen) h)
  go_enter Try.func75, Try.ntmps75
  go_wp2_with (fail)
  refine HS.out.mono ?_
  rintro e w1 ⟨B, d, rfl, ho1, hb1⟩
  go_wp2_with (fail)
  refine (HN B d w1 (own_rd ho1).1).out.mono ?_
  rintro e w2 ⟨B2, d2, rfl, ho2, hb2⟩
  go_wp2_with (fail)
  go_ret
  exact ⟨B2, d2, by rw [HL.out]; rfl, by rw [HL.out]; exact own_base ho2 hb1.size, bl_call hb1 hb2⟩

def OutG (m : List G) (x : Int) (w : World) (e : Ending) (w' : World) : Prop :=
  ∃ A' c', e = .returned (.tuple #[.slice A' m.length c', .int .i64 x]) ∧ w'.ownsRow w.heap.size 23 4 (.slice A' m.length c') m.length (cellsG m) ∧ Below w.heap.size w w'

set_option maxRecDepth 100000 in
theorem Reduce_c (n : Int) (A : Option Addr) (l : List G) (c : Nat) (w : World) (hlen : l.length ≤ 1000) (hr : Rd w A (cellsG l)) :
    Calls Try.prog 41 #[.int .i64 n, .slice A l.length c] w (OutG (redL n l) (validE n l) w) := by
  have HV := Lib.hid (validate_c n A l c w hlen hr)
  by_cases hv : validE n l = 0
  · obtain ⟨h10, hang, _⟩ := gatesE_ang hv
    have HS := fun (w1 : World) (h : Rd w1 A (cellsG l)) => Lib.hid (reduced_c A l c w1 (by omega) hang h)
    have HB : redL n l = reducedL l := by rw [redL, if_pos hv]
    rw [hv] at HV
    rw [hv, HB]
    clear HB
    go_enter Try.func41, Try.ntmps41
    go_wp2_with (go_at_call 24; refine HV.out.mono ?_; rintro e w1 ⟨rfl, hb1⟩)
    refine (HS _ (hr.later hb1)).out.mono ?_
    rintro e w2 ⟨A2, c2, rfl, ho2, hb2⟩
    go_wp2_with (fail)
    go_ret2
    exact ⟨A2, c2, rfl, own_base ho2 hb1.size, bl_call hb1 hb2⟩
  · have HB : redL n l = [] := by rw [redL, if_neg hv]
    rw [HB]
    clear HB
    generalize validE n l = ev at hv HV
    go_enter Try.func41, Try.ntmps41
    go_wp2_with (go_at_call 24; refine HV.out.mono ?_; rintro e w1 ⟨rfl, hb1⟩)
    go_ret2
    exact ⟨none, 0, rfl, World.ownsRow_nil _ _ _ _, hb1⟩

set_option maxRecDepth 100000 in
theorem Name_c (n : Int) (A : Option Addr) (l : List G) (c : Nat) (w : World) (hlen : l.length ≤ 1000) (hr : Rd w A (cellsG l)) :
    Calls Try.prog 26 #[.int .i64 n, .slice A l.length c] w (OutG (nmL n l) (validE n l) w) := by
  have HV := Lib.hid (validate_c n A l c w hlen hr)
  by_cases hv : validE n l = 0
  · obtain ⟨h10, _, _⟩ := gatesE_ang hv
    have HS := fun (w1 : World) (h : Rd w1 A (cellsG l)) => Lib.hid (nameOf_c A l c w1 (by omega) h)
    have HB : nmL n l = nameL l := by rw [nmL, if_pos hv]
    have HL := nameL_len l
    rw [hv] at HV
    rw [hv, HB]
    clear HB
    have HL' : Hid ((nameL l).length = l.length) := HL
    clear HL
    go_enter Try.func26, Try.ntmps26
    go_wp2_with (go_at_call 24; refine HV.out.mono ?_; rintro e w1 ⟨rfl, hb1⟩)
    refine (HS _ (hr.later hb1)).out.mono ?_
    rintro e w2 ⟨A2, c2, rfl, ho2, hb2⟩
    go_wp2_with (fail)
    go_ret2
    exact ⟨A2, c2, by rw [HL'.out]; rfl, by rw [HL'.out]; exact own_base ho2 hb1.size, bl_call hb1 hb2⟩
  · have HB : nmL n l = [] := by rw [nmL, if_neg hv]
    rw [HB]
    clear HB
    generalize validE n l = ev at hv HV
    go_enter Try.func26, Try.ntmps26
    go_wp2_with (go_at_call 24; refine HV.out.mono ?_; rintro e w1 ⟨rfl, hb1⟩)
    go_ret2
    exact ⟨none, 0, rfl, World.ownsRow_nil _ _ _ _, hb1⟩
end Go.Proofs.Yteoajadcdjaalaa
