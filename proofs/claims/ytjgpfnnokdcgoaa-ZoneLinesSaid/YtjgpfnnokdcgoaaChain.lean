/- Orders in which just the neighbors have a link. -/
import Derived.Test.YtjgpfnnokdcgoaaRlink
import Derived.Test.YtjgpfnnokdcgoaaLow
import Derived.Test.YtjgpfnnokdcgoaaLine
import Derived.Deep.CutRange
namespace Go.Proofs.Ytjgpfnnokdcgoaa
open Go.RowKit Go.Maps

/-- Are the places k and i, k below i, neighbors in an order of n? -/
def nbrB (n : Nat) (round : Bool) (i k : Nat) : Bool := decide (k + 1 = i) || (round && (decide (k = 0) && decide (i + 1 = n)))
def rowB (l : List (Int × Int)) (o : List Int) (round : Bool) (i k : Nat) : Bool := (List.range k).all fun j => linkB l (o.getD j 0) (o.getD i 0) == nbrB o.length round i j
def chainTo (l : List (Int × Int)) (o : List Int) (round : Bool) (i : Nat) : Bool := (List.range i).all fun j => rowB l o round j j
def chainB (l : List (Int × Int)) (o : List Int) (round : Bool) : Bool := chainTo l o round o.length
theorem rowB_succ (l : List (Int × Int)) (o : List Int) (round : Bool) (i k : Nat) : rowB l o round i (k + 1) = (rowB l o round i k && (linkB l (o.getD k 0) (o.getD i 0) == nbrB o.length round i k)) := by
  rw [rowB, List.range_succ, List.all_append]; simp [rowB]
theorem chainTo_succ (l : List (Int × Int)) (o : List Int) (round : Bool) (i : Nat) : chainTo l o round (i + 1) = (chainTo l o round i && rowB l o round i i) := by
  rw [chainTo, List.range_succ, List.all_append]; simp [chainTo]
theorem chainB_iff {l : List (Int × Int)} {o : List Int} {round : Bool} : chainB l o round = true ↔ ∀ i, i < o.length → ∀ k, k < i → linkB l (o.getD k 0) (o.getD i 0) = nbrB o.length round i k := by
  rw [chainB, chainTo, List.all_eq_true]
  constructor
  · intro h i hi k hk
    have := h i (List.mem_range.2 hi)
    rw [rowB, List.all_eq_true] at this
    simpa using this k (List.mem_range.2 hk)
  · intro h i hi
    rw [rowB, List.all_eq_true]
    intro k hk
    simpa using h i (List.mem_range.1 hi) k (List.mem_range.1 hk)

set_option maxRecDepth 100000 in
set_option maxHeartbeats 8000000 in
theorem chain_c (Z : Int) (A B : Option Addr) (l : List (Int × Int)) (o : List Int) (round : Bool) (c d : Nat) (w : World) (hlen : l.length ≤ 1000) (hol : o.length ≤ 1000) (hr : Rd w A (cellsP l)) (hs : Rd w B (ints o)) :
    Calls Try.prog 81 #[trapV Z A l.length c, .slice B o.length d, .bool round] w fun e w' => e = .returned (.bool (chainB l o round)) ∧ Below w.heap.size w w' := by
  have x0 := Bx.new w 24 #[.int .i64 Z, .slice A l.length c]
  have hb0 := bl_alloc (Below.refl w.heap.size w) (.cells #[.int .i64 Z, .slice A l.length c] 24)
  generalize hw0 : w.alloc (.cells #[.int .i64 Z, .slice A l.length c] 24) = w0 at *
  have HLK := fun a b w1 h => Lib.hid (rlinked_c Z A l c a b w1 hlen h)
  have HCT := fun i => Lib.hid (chainTo_succ l o round i)
  have HRT := fun i k => Lib.hid (rowB_succ l o round i k)
  have HALL : Hid (∀ i, i < o.length → ∀ k, k < i → linkB l (o.getD k 0) (o.getD i 0) ≠ nbrB o.length round i k → chainB l o round = false) := fun i hi k hk h => by
    rw [Bool.eq_false_iff]; exact fun hc => h (chainB_iff.1 hc i hi k hk)
  have HCE : Hid (chainB l o round = chainTo l o round o.length) := rfl
  generalize chainB l o round = R at *
  go_enter Try.func81, Try.ntmps81
  go_wp2_with (fail)
  go_loopg [8] o.length (fun gk iv wr => ∃ i : Nat, Hid (i + gk = o.length) ∧ iv = .int .i64 (i : Int) ∧ Hid (chainTo l o round i = true) ∧ Below w0.heap.size w0 wr)
  case atStart => exact ⟨0, by simp [Hid], rfl, rfl, Below.refl _ _⟩
  case round =>
    obtain ⟨i, HI, rfl, HC, hb⟩ := hrel
    rcases gk with _ | gi
    · obtain rfl : i = o.length := HI.out
      have HR : Hid (R = true) := by show _ = _; rw [HCE.out, HC.out]
      go_wp2_with (fail)
      go_ret
      exact ⟨by rw [HR.out]; rfl, bl_call hb0 hb⟩
    · have hil : i < o.length := by have h := HI.out; omega
      have hil' : (i : Int) < (o.length : Int) := by omega
      obtain ⟨wo, rfl⟩ : ∃ wo, wo = wr := ⟨_, rfl⟩
      go_wp2_with (fail)
      go_loopg [9] i (fun gk iv wr => ∃ k : Nat, Hid (k + gk = i) ∧ iv = .int .i64 (k : Int) ∧ Hid (rowB l o round i k = true) ∧ Below w0.heap.size w0 wr)
      case atStart => exact ⟨0, by simp [Hid], rfl, rfl, hb⟩
      case round =>
        obtain ⟨k, HK, rfl, HRow, hb⟩ := hrel
        rcases gk with _ | gj
        · obtain rfl : k = i := HK.out
          have HC2 : Hid (chainTo l o round (k + 1) = true) := by show _ = _; rw [(HCT k).out, HC.out, HRow.out]; rfl
          go_wp2_with (fail)
          go_roundg gi
          case rel => exact ⟨k + 1, by have h := HI.out; show _ = _; omega, by go_num, HC2, hb⟩
          case measure => omega
        · have hki : k < i := by have h := HK.out; omega
          have hki' : (k : Int) < (i : Int) := by omega
          have hx := x0.call hb
          obtain ⟨c0, c1, _⟩ := hx.two
          have hbw := bl_call hb0 hb
          obtain ⟨b1, o1, rfl, _, _⟩ := (hs.later hbw).at_ (k := k) (by rw [ints_length]; omega)
          have HCA : ∀ W, Below wr.heap.size wr W → Hid (W.cell? ⟨b1, o1 + k, none⟩ = some (.int .i64 (o.getD k 0)) ∧ W.cell? ⟨b1, o1 + i, none⟩ = some (.int .i64 (o.getD i 0))) := fun W hW => by
            obtain ⟨b2, o2, he, _, hc⟩ := (hs.later (bl_call hbw hW)).at_ (k := k) (by rw [ints_length]; omega)
            injection he with he
            injection he with e1 e2
            subst e1 e2
            exact ⟨hc k _ (ints_get (by omega)), hc i _ (ints_get hil)⟩
          have HLKa := HLK (o.getD k 0) (o.getD i 0)
          have HNE := Lib.hid (fun h => HALL.out i hil k hki h)
          have HRS := HRT i k
          have hC : Below wr.heap.size wr wr.drew := (Below.refl _ _).drew
          have HCC := fun W (hW : Below wr.heap.size wr W) => Lib.hid ((hx.call hW).two)
          have HRR := fun W (hW : Below wr.heap.size wr W) => Lib.hid (hr.later (bl_call hbw hW))
          generalize o.getD k 0 = ok at *
          generalize o.getD i 0 = oi at *
          have hk'' : (k : Int) < (o.length : Int) := by omega
          have hw1 : IntKind.i64.wrap ((i : Int) - 1) = (i : Int) - 1 := by simp [IntKind.wrap, IntKind.bits, IntKind.signed]; omega
          have hw2 : IntKind.i64.wrap ((o.length : Int) - 1) = (o.length : Int) - 1 := by simp [IntKind.wrap, IntKind.bits, IntKind.signed]; omega
          have hcs : (((k : Int) == (i : Int) - 1) = true ∧ nbrB o.length round i k = true) ∨ (((k : Int) == (i : Int) - 1) = false ∧ round = false ∧ nbrB o.length round i k = false) ∨
              (((k : Int) == (i : Int) - 1) = false ∧ round = true ∧ ((k : Int) == 0) = false ∧ nbrB o.length round i k = false) ∨
              (((k : Int) == (i : Int) - 1) = false ∧ round = true ∧ ((k : Int) == 0) = true ∧ ((i : Int) == (o.length : Int) - 1) = decide (i + 1 = o.length) ∧ nbrB o.length round i k = decide (i + 1 = o.length)) := by
            have e1 : ((k : Int) == (i : Int) - 1) = decide (k + 1 = i) := by rw [Bool.eq_iff_iff]; simp; omega
            have e2 : ((k : Int) == 0) = decide (k = 0) := by rw [Bool.eq_iff_iff]; simp
            have e3 : ((i : Int) == (o.length : Int) - 1) = decide (i + 1 = o.length) := by rw [Bool.eq_iff_iff]; simp; omega
            rw [e1, e2, e3, nbrB]
            by_cases h1 : k + 1 = i
            · left; simp [h1]
            · cases round
              · right; left; simp [h1]
              · by_cases h2 : k = 0
                · right; right; right
                  subst h2
                  have h1' : ¬ (1 = i) := by omega
                  simp [h1']
                · right; right; left; simp [h1, h2]
          generalize nbrB o.length round i k = nb at *
          by_cases hq : linkB l ok oi = nb
          · have HRow2 : Hid (rowB l o round i (k + 1) = true) := by show _ = _; rw [HRS.out, HRow.out, hq]; simp
            rw [hq] at HLKa
            have hnn : (nb != nb) = false := by simp
            clear HRS HNE hq
            rcases hcs with ⟨e1, rfl⟩ | ⟨e1, rfl, rfl⟩ | ⟨e1, rfl, e2, rfl⟩ | ⟨e1, rfl, e2, e3, e4⟩
            all_goals
              go_wp2_with (fail)
              refine wp_region_low (hC) (by kernel_rfl) (by kernel_rfl) ?_
              repeat (first
                | go_big_quiet_skip
                | (go_big_quiet_want
                   apply Exists.intro
                   refine And.intro (fun W hW => ?_) ?_
                   · (obtain ⟨c0, c1, _⟩ := (HCC W hW).out; obtain ⟨p0, p1⟩ := (HCA W hW).out)
                     go_simp
                     first
                       | exact rfl
                       | ((refine (HLKa W (HRR W hW).out).out.mono ?_; rintro e w4 ⟨rfl, hb4⟩; exact ⟨rfl, bl_call hW hb4⟩))
                   try go_simp
                   go_big_quiet_on))
              refine wpQuiet_nil ?_
              intro w9 hb9
              go_wp2_with (fail)
              go_roundg gj
              case rel => exact ⟨k + 1, by have h := HK.out; show _ = _; omega, by go_num, HRow2, bl_call hb hb9⟩
              case measure => omega
          · have HR : Hid (R = false) := HNE.out hq
            generalize linkB l ok oi = lk at *
            have hcc : (lk = true ∧ nb = false) ∨ (lk = false ∧ nb = true) := by cases lk <;> cases nb <;> simp_all
            clear HRS HNE hq
            rcases hcc with ⟨rfl, rfl⟩ | ⟨rfl, rfl⟩
            all_goals
              rcases hcs with ⟨e1, e0⟩ | ⟨e1, rfl, e0⟩ | ⟨e1, rfl, e2, e0⟩ | ⟨e1, rfl, e2, e3, e4⟩
              all_goals first | (exact absurd e0 (by decide)) | skip
              all_goals first | (rw [← e4] at e3; clear e4) | skip
              all_goals
                go_wp2_with (fail)
                refine wp_region_low (hC) (by kernel_rfl) (by kernel_rfl) ?_
                repeat (first
                  | go_big_quiet_skip
                  | (go_big_quiet_want
                     apply Exists.intro
                     refine And.intro (fun W hW => ?_) ?_
                     · (obtain ⟨c0, c1, _⟩ := (HCC W hW).out; obtain ⟨p0, p1⟩ := (HCA W hW).out)
                       go_simp
                       first
                         | exact rfl
                         | ((refine (HLKa W (HRR W hW).out).out.mono ?_; rintro e w4 ⟨rfl, hb4⟩; exact ⟨rfl, bl_call hW hb4⟩))
                     try go_simp
                     go_big_quiet_on))
                refine wpQuiet_nil ?_
                intro w9 hb9
                go_wp2_with (fail)
                go_ret
                exact ⟨by rw [HR.out]; rfl, bl_call hbw hb9⟩
end Go.Proofs.Ytjgpfnnokdcgoaa
