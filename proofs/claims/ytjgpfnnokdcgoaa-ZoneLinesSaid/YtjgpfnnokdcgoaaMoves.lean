/- Package zone: the moves of a place. -/
import Derived.Test.YtjgpfnnokdcgoaaNear2
namespace Go.Proofs.Ytjgpfnnokdcgoaa
open Go.RowKit Go.Maps

/-- The moves of an ion to the zones of a list that are free. -/
def mvIn (p : List Int) (i : Nat) (L : List Int) : List (Int × Int) := (L.filter fun t => !p.contains t).map fun t => ((i : Int), t)
/-- The moves of the first ions. -/
def mvTo (l : List (Int × Int)) (Z : Nat) (p : List Int) : Nat → List (Int × Int)
  | 0 => []
  | i + 1 => mvTo l Z p i ++ mvIn p i (nearL l (p.getD i 0) Z)
theorem mvIn_snoc {p : List Int} {i : Nat} {L : List Int} {k : Nat} (h : k < L.length) : mvIn p i (L.take (k + 1)) = mvIn p i (L.take k) ++ (if p.contains (L.getD k 0) then [] else [((i : Int), L.getD k 0)]) := by
  have e : L.take (k + 1) = L.take k ++ [L.getD k 0] := by rw [List.take_succ_eq_append_getElem h]; simp [h]
  rw [e, mvIn, List.filter_append, List.map_append, mvIn]
  cases hc : p.contains (L.getD k 0) with
  | true => simp at hc; simp [hc]
  | false => simp at hc; simp [hc]
theorem mvIn_len (p : List Int) (i : Nat) (L : List Int) : (mvIn p i L).length ≤ L.length := by rw [mvIn, List.length_map]; exact List.length_filter_le _ _
theorem mvTo_len (l : List (Int × Int)) (Z : Nat) (p : List Int) : ∀ i, (mvTo l Z p i).length ≤ i * Z
  | 0 => by simp [mvTo]
  | i + 1 => by
    have := mvTo_len l Z p i
    have := mvIn_len p i (nearL l (p.getD i 0) Z)
    have := near_le l (p.getD i 0) Z
    rw [mvTo, List.length_append, Nat.succ_mul]; omega
theorem cellsP_append (l m : List (Int × Int)) : cellsP (l ++ m) = cellsP l ++ cellsP m := by simp [cellsP]

theorem make_moves (n : Nat) (hn : n ≤ 100) (w : World) : ∃ w', (Instr.makeSlice 37 (.int .i64 0) (.int .i64 n)).run Try.prog w = .ok (.slice (some ⟨w.heap.size, 0, none⟩) 0 n) w' ∧ w'.ownsRow w.heap.size 54 2 (.slice (some ⟨w.heap.size, 0, none⟩) 0 n) 0 [] ∧ w.grownBy w' none := by
  obtain ⟨i0, hi, hz0, hz1, hz2⟩ := info_parts move_info
  exact run_make_own (P := Try.prog) w w.heap.size 37 54 i0 _ 2 Try.underlying37 hi hz0 hz1 .i64 .i64 n (by rw [hz2]; omega) (by unfold maxLen; omega) (Nat.le_refl _)

set_option maxRecDepth 100000 in
set_option maxHeartbeats 4000000 in
theorem moves_c (Z : Nat) (l : List (Int × Int)) (h0 h1 h2 h3 h4 h5 : Value) (A : Option Addr) (p : List Int) (c : Nat) (w : World) (hZ : Z ≤ 6) (hp4 : p.length ≤ 4) (hpz : p.length ≤ Z) (hin : ∀ x ∈ p, 0 ≤ x ∧ x < (Z : Int)) (hn : NetR w Z l [h0, h1, h2, h3, h4, h5]) (hr : Rd w A (ints p)) :
    Calls Try.prog 68 #[.agg #[.int .i64 Z, h0, h1, h2, h3, h4, h5], .slice A p.length c] w fun e w' => ∃ A' c', e = .returned (.slice A' (mvTo l Z p p.length).length c') ∧ w'.ownsRow w.heap.size 54 2 (.slice A' (mvTo l Z p p.length).length c') (mvTo l Z p p.length).length (cellsP (mvTo l Z p p.length)) ∧ Below w.heap.size w w' := by
  obtain ⟨i0, hi, hz0, hz1, hz2⟩ := info_parts move_info
  have x0 := Bx.new w 78 #[.int .i64 Z, h0, h1, h2, h3, h4, h5]
  have hb0 := bl_alloc (Below.refl w.heap.size w) (.cells #[.int .i64 Z, h0, h1, h2, h3, h4, h5] 78)
  generalize hw0 : w.alloc (.cells #[.int .i64 Z, h0, h1, h2, h3, h4, h5] 78) = w0 at *
  have hn0 := hn.later hb0
  have hr0 := hr.later hb0
  have hgw : w.heap.size < w0.heap.size := x0.lt
  obtain ⟨m1, hm1⟩ : ∃ m1 : Nat, p.length + m1 = Z := ⟨Z - p.length, by omega⟩
  obtain ⟨m2, hm2⟩ : ∃ m2 : Nat, m2 = p.length * m1 := ⟨_, rfl⟩
  have hm3 : m2 ≤ 24 := by
    rw [hm2]
    calc p.length * m1 ≤ 4 * 6 := Nat.mul_le_mul (by omega) (by omega)
      _ = 24 := rfl
  have q2 : wrap64 ((p.length : Int) * ((Z : Int) - (p.length : Int))) = (m2 : Int) := by
    rw [show (Z : Int) - (p.length : Int) = (m1 : Int) by omega, ← Int.natCast_mul, ← hm2]; unfold wrap64; omega
  obtain ⟨w1, hmk, hown1, hgr1⟩ := make_moves m2 (by omega) w0
  have hb01 : Below w0.heap.size w0 w1 := (Below.refl _ _).grown hgr1 (Nat.le_refl _) (fun k e => by cases e)
  obtain ⟨c0, c1⟩ : w0.cell? ⟨w.heap.size, 0, none⟩ = some (.int .i64 Z) ∧ True := ⟨x0.cell 0, trivial⟩
  have hmlen := mvTo_len l Z p
  clear hm2
  go_enter Try.func68, Try.ntmps68
  go_wp2_with (fail)
  clear q2 hmk hm1
  go_loopg [5, 21] p.length (fun gk v iv wr => ∃ i : Nat, Hid (i + gk = p.length) ∧ iv = .int .i64 (i : Int) ∧ wr.ownsRow w0.heap.size 54 2 v (mvTo l Z p i).length (cellsP (mvTo l Z p i)) ∧ Below w0.heap.size w0 wr)
  case atStart => exact ⟨0, by simp [Hid], rfl, hown1, hb01⟩
  case round =>
    obtain ⟨i, HI, rfl, hown, hb⟩ := hrel
    rcases gk with _ | gi
    · obtain rfl : i = p.length := HI.out
      obtain ⟨A', c', rfl⟩ := own_form hown
      go_wp2_with (fail)
      go_ret
      exact ⟨A', c', rfl, own_base hown (by omega), bl_call hb0 hb⟩
    · have hil : i < p.length := by have h := HI.out; omega
      have hil' : (i : Int) < (p.length : Int) := by omega
      obtain ⟨b, o, rfl, hbl, hc⟩ := (hr0.later hb).at_ (k := i) (by simpa using hil)
      have d0 := hc i _ (ints_get hil)
      clear hc
      have hx := hin (p.getD i 0) (by simp [hil])
      obtain ⟨z, hz⟩ : ∃ z : Nat, p.getD i 0 = (z : Int) := ⟨(p.getD i 0).toNat, (Int.toNat_of_nonneg hx.1).symm⟩
      have HMV : Hid (mvTo l Z p (i + 1) = mvTo l Z p i ++ mvIn p i (nearL l (z : Int) Z)) := by show _ = _; rw [mvTo, hz]
      have hML : (mvTo l Z p i).length ≤ 24 := Nat.le_trans (hmlen i) (Nat.le_trans (Nat.mul_le_mul (by omega : i ≤ 4) hZ) (by omega))
      rw [hz] at d0 hx
      have hz6 : z < 6 := by omega
      have q3 : (0 : Int) ≤ (z : Int) := by omega
      have q4 : (z : Int) < 6 := by omega
      obtain ⟨A1, c1, e1, hlc, hrn⟩ := hn0 z hz6
      have e2 := net_cell (hs := [h0, h1, h2, h3, h4, h5]) (x0.call hb) e1
      have hLl := near_le l (z : Int) Z
      clear hz e1
      generalize nearL l (z : Int) Z = L at *
      generalize mvTo l Z p i = M at *
      go_wp2_with (fail)
      clear e2 d0
      go_loopg [5, 31] L.length (fun gk v iv wr => ∃ k : Nat, Hid (k + gk = L.length) ∧ iv = .int .i64 (k : Int) ∧ wr.ownsRow w0.heap.size 54 2 v (M ++ mvIn p i (L.take k)).length (cellsP (M ++ mvIn p i (L.take k))) ∧ Below w0.heap.size w0 wr)
      case atStart => exact ⟨0, by simp [Hid], rfl, by simpa [mvIn] using hown, hb⟩
      case round =>
        obtain ⟨k, HK, rfl, hown, hb⟩ := hrel
        rcases gk with _ | gj
        · obtain rfl : k = L.length := HK.out
          rw [List.take_length] at hown
          rw [← HMV.out] at hown
          go_wp2_with (fail)
          go_roundg gi
          case rel => exact ⟨i + 1, by have h := HI.out; show _ = _; omega, by go_num, hown, hb⟩
          case measure => omega
        · have hkl : k < L.length := by have h := HK.out; omega
          have hkl' : (k : Int) < (L.length : Int) := by omega
          obtain ⟨b2, o2, rfl, hbl2, hc⟩ := (hrn.later hb).at_ (k := k) (by simpa using hkl)
          have d0 := hc k _ (ints_get hkl)
          clear hc
          have HS := Lib.hid (mvIn_snoc (p := p) (i := i) hkl)
          have hml := mvIn_len p i (L.take k)
          have htl : (L.take k).length ≤ k := by simp; omega
          have HC := fun t w1 h => Lib.hid (contains_c (some ⟨b, o, none⟩) p c t w1 (by omega) h)
          generalize L.getD k 0 = t at *
          generalize mvIn p i (L.take k) = N at *
          have hrr := hr0.later hb
          have HCt := HC t wr hrr
          clear HC
          have hMN : (M ++ N).length ≤ 30 := by rw [List.length_append]; omega
          cases hq : p.contains t with
          | true =>
            rw [hq] at HCt
            have HS' : Hid (M ++ mvIn p i (L.take (k + 1)) = M ++ N) := by show _ = _; rw [HS.out, hq]; simp
            clear HS hq
            generalize M ++ N = MN at *
            go_wp2_with (fail)
            refine HCt.out.mono ?_
            rintro e w2 ⟨rfl, hb2⟩
            have hown2 := own_call hown hb2
            go_wp2_with (fail)
            go_roundg gj
            case rel => exact ⟨k + 1, by have h := HK.out; show _ = _; omega, by go_num, by rw [HS'.out]; exact hown2, bl_call hb hb2⟩
            case measure => omega
          | false =>
            rw [hq] at HCt
            have HS' : Hid (M ++ mvIn p i (L.take (k + 1)) = (M ++ N) ++ [((i : Int), t)]) := by show _ = _; rw [HS.out, hq]; simp
            clear HS hq
            generalize M ++ N = MN at *
            obtain ⟨B, d, rfl⟩ := own_form hown
            go_wp2_with (fail)
            refine HCt.out.mono ?_
            rintro e w2 ⟨rfl, hb2⟩
            have hown2 := own_call hown hb2
            have hb02 := bl_call hb hb2
            have hsz2 := hb02.size
            go_wp2_with (at_builtin; refine wpList_append_own _ rfl _ _ 37 rfl w0.heap.size 54 i0 _ 2 16 Try.underlying37 hi hz0 hz1 hz2 rfl (by decide) _ _ _ rfl (hown2.alloc _) ⟨w2.heap.size, 0, none⟩ 1 1 [.int .i64 i, .int .i64 t] rfl rfl ?c1 ?c2 ?c3 ?c4 ?c5 ?_)
            case c1 =>
              intro j u hj
              match j, hj with
              | 0, hj => simp at hj; subst hj; simp [Addr.add]
              | 1, hj => simp at hj; subst hj; simp [Addr.add]
            case c2 => intro u hu; simp at hu; rcases hu with rfl | rfl <;> rfl
            case c3 => unfold maxLen; omega
            case c4 => omega
            case c5 => simp; omega
            intro v2 w4 hown4 hg4 _
            have hbg := grown_below (hown2.alloc (.cells #[.int .i64 i, .int .i64 t] 54)) hg4 (by simp; omega)
            have hb4 : Below w0.heap.size w0 w4 := (bl_alloc hb02 _).trans hbg
            have HO : Hid (w4.ownsRow w0.heap.size 54 2 v2 (M ++ mvIn p i (L.take (k + 1))).length (cellsP (M ++ mvIn p i (L.take (k + 1))))) := by
              show World.ownsRow _ _ _ _ _ _ _
              rw [HS'.out, cellsP_snoc, List.length_append]; exact hown4
            clear hown4 hown2 hown
            go_wp2_with (fail)
            go_roundg gj
            case rel => exact ⟨k + 1, by have h := HK.out; show _ = _; omega, by go_num, HO.out, hb4⟩
            case measure => omega
end Go.Proofs.Ytjgpfnnokdcgoaa
