/- How many places are reached, and how far the farthest one is, in the specification. -/
import Derived.Test.YtjgpfnnokdcgoaaDistA
import Derived.Test.YtjgpfnnokdcgoaaReach
namespace Go.Proofs.Ytjgpfnnokdcgoaa
open Go.RowKit Go.Maps

theorem cntN_step {D : List Int} {k : Nat} (hk : k < D.length) : cntN (D.take (k + 1)) = if D.getD k 0 < 1000000 then cntN (D.take k) + 1 else cntN (D.take k) := by
  rw [List.take_succ_eq_append_getElem hk, cntN_snoc]; simp [hk]
theorem mxN_step {D : List Int} {k : Nat} (hk : k < D.length) : mxN (D.take (k + 1)) = if D.getD k 0 < 1000000 then max (mxN (D.take k)) (D.getD k 0) else mxN (D.take k) := by
  rw [List.take_succ_eq_append_getElem hk, mxN_snoc]; simp [hk]

set_option maxRecDepth 100000 in
set_option maxHeartbeats 4000000 in
theorem rReach_c (Z : Int) (A B : Option Addr) (l : List (Int × Int)) (p : List Int) (c d : Nat) (w : World) (hlen : l.length ≤ 1000) (hlen' : p.length ≤ 1000) (hcap : p.length ≤ d) (hr : Rd w A (cellsP l)) (hs : Rd w B (ints p)) :
    Calls Try.prog 40 #[trapV Z A l.length c, .slice B p.length d] w fun e w' => e = .returned (.tuple #[.int .i64 (reachG Z l p), .int .i64 (placeE Z l p)]) ∧ Below w.heap.size w w' := by
  have x0 := Bx.new w 24 #[.int .i64 Z, .slice A l.length c]
  have hb0 := bl_alloc (Below.refl w.heap.size w) (.cells #[.int .i64 Z, .slice A l.length c] 24)
  generalize hw0 : w.alloc (.cells #[.int .i64 Z, .slice A l.length c] 24) = w0 at *
  have HV := Lib.hid (rplace_c Z A B l p c d w0 hlen hlen' hcap (hr.later hb0) (hs.later hb0))
  obtain ⟨c0, c1, _⟩ := x0.two
  by_cases h1 : placeE Z l p = 0
  · obtain ⟨ht, hp4, _, _⟩ := placeE_zero h1
    obtain ⟨n, rfl, _, h6⟩ := trap_nat ht
    have e1 : reachG n l p = (cntN (distL (reachL l n p) (6 ^ p.length)) : Int) := by
      rw [reachG, if_pos h1, GoodL.cnt _ _ rfl (reachL_good (placeE_v h1) h6 hp4)]; simp
    have HD := fun w1 h h' => Lib.hid (distances_c n A B l p c d w1 h1 hlen hcap h h')
    have hN : 6 ^ p.length ≤ 1296 := by
      match p.length, hp4 with
      | 0, _ => decide
      | 1, _ => decide
      | 2, _ => decide
      | 3, _ => decide
      | 4, _ => decide
    have hDl := distL_len (reachL l n p) (6 ^ p.length)
    rw [e1, h1]
    rw [h1] at HV
    generalize distL (reachL l n p) (6 ^ p.length) = D at *
    generalize 6 ^ p.length = N at *
    clear e1 h1 ht
    subst hDl
    go_enter Try.func40, Try.ntmps40
    go_wp2_with (fail)
    refine HV.out.mono ?_
    rintro e w1 ⟨rfl, hb1⟩
    have hb01 := bl_call hb0 hb1
    have y1 := x0.call hb1
    clear c0 c1
    obtain ⟨c0, c1, _⟩ := y1.two
    go_wp2_with (fail)
    refine (HD _ (hr.later hb01) (hs.later hb01)).out.mono ?_
    rintro e w3 ⟨A3, c3, rfl, ho3, hb3⟩
    have hb03 := bl_call hb01 hb3
    have hr3 := (own_rd ho3).1
    go_wp2_with (fail)
    go_loopg [8, 9] D.length (fun gk nv iv wr => ∃ k : Nat, Hid (k + gk = D.length) ∧ iv = .int .i64 (k : Int) ∧ nv = .int .i64 ((cntN (D.take k) : Nat) : Int) ∧ w3 = wr)
    case atStart => exact ⟨0, by simp [Hid], rfl, rfl, rfl⟩
    case round =>
      obtain ⟨k, HK, rfl, rfl, rfl⟩ := hrel
      rcases gk with _ | gi
      · obtain rfl : k = D.length := HK.out
        rw [List.take_length]
        go_wp2_with (fail)
        go_ret2
        exact ⟨rfl, hb03⟩
      · have hkl : k < D.length := by have h := HK.out; omega
        have hkl' : (k : Int) < (D.length : Int) := by omega
        obtain ⟨b, o, rfl, _, hc⟩ := hr3.at_ (k := k) (by simpa using hkl)
        have hci := hc k _ (ints_get hkl)
        have HS := Lib.hid (cntN_step hkl)
        have hcl := cntN_le (D.take k)
        rw [List.length_take] at hcl
        have hcl2 : cntN (D.take k) ≤ 1296 := by omega
        clear hcl
        generalize D.getD k 0 = x at *
        generalize cntN (D.take k) = m at *
        have hw1 : IntKind.i64.wrap ((m : Int) + 1) = (m : Int) + 1 := by simp [IntKind.wrap, IntKind.bits, IntKind.signed]; omega
        clear hc
        by_cases hx : x < 1000000
        · go_wp2_with (fail)
          go_roundg gi
          case rel => exact ⟨k + 1, by have h := HK.out; show _ = _; omega, by go_num, by rw [HS.out, if_pos hx]; first | rfl | (push_cast; rfl) | simp, rfl⟩
          case measure => omega
        · go_wp2_with (fail)
          go_roundg gi
          case rel => exact ⟨k + 1, by have h := HK.out; show _ = _; omega, by go_num, by rw [HS.out, if_neg (by omega)], rfl⟩
          case measure => omega
  · have e1 : reachG Z l p = 0 := by rw [reachG, if_neg h1]
    rw [e1]
    clear e1
    generalize placeE Z l p = te at *
    go_enter Try.func40, Try.ntmps40
    go_wp2_with (fail)
    refine HV.out.mono ?_
    rintro e w1 ⟨rfl, hb1⟩
    go_wp2_with (fail)
    go_ret2
    exact ⟨rfl, bl_call hb0 hb1⟩

set_option maxRecDepth 100000 in
set_option maxHeartbeats 4000000 in
theorem rFarthest_c (Z : Int) (A B : Option Addr) (l : List (Int × Int)) (p : List Int) (c d : Nat) (w : World) (hlen : l.length ≤ 1000) (hlen' : p.length ≤ 1000) (hcap : p.length ≤ d) (hr : Rd w A (cellsP l)) (hs : Rd w B (ints p)) :
    Calls Try.prog 42 #[trapV Z A l.length c, .slice B p.length d] w fun e w' => e = .returned (.tuple #[.int .i64 (farG Z l p), .int .i64 (placeE Z l p)]) ∧ Below w.heap.size w w' := by
  have x0 := Bx.new w 24 #[.int .i64 Z, .slice A l.length c]
  have hb0 := bl_alloc (Below.refl w.heap.size w) (.cells #[.int .i64 Z, .slice A l.length c] 24)
  generalize hw0 : w.alloc (.cells #[.int .i64 Z, .slice A l.length c] 24) = w0 at *
  have HV := Lib.hid (rplace_c Z A B l p c d w0 hlen hlen' hcap (hr.later hb0) (hs.later hb0))
  obtain ⟨c0, c1, _⟩ := x0.two
  by_cases h1 : placeE Z l p = 0
  · obtain ⟨ht, hp4, _, _⟩ := placeE_zero h1
    obtain ⟨n, rfl, _, h6⟩ := trap_nat ht
    have hv := placeE_v h1
    have hgood := reachL_good (l := l) hv h6 hp4
    have hsort := (reachL_facts (l := l) hv rfl h6 hp4).2.2.2.2.2
    have e1 : farG n l p = mxN (distL (reachL l n p) (6 ^ p.length)) := by
      rw [farG, if_pos h1, hgood.mx hsort]; simp
    have HD := fun w1 h h' => Lib.hid (distances_c n A B l p c d w1 h1 hlen hcap h h')
    have hN : 6 ^ p.length ≤ 1296 := by
      match p.length, hp4 with
      | 0, _ => decide
      | 1, _ => decide
      | 2, _ => decide
      | 3, _ => decide
      | 4, _ => decide
    have hDl := distL_len (reachL l n p) (6 ^ p.length)
    rw [e1, h1]
    rw [h1] at HV
    generalize distL (reachL l n p) (6 ^ p.length) = D at *
    generalize 6 ^ p.length = N at *
    clear e1 h1 ht hv hgood hsort
    subst hDl
    go_enter Try.func42, Try.ntmps42
    go_wp2_with (fail)
    refine HV.out.mono ?_
    rintro e w1 ⟨rfl, hb1⟩
    have hb01 := bl_call hb0 hb1
    have y1 := x0.call hb1
    clear c0 c1
    obtain ⟨c0, c1, _⟩ := y1.two
    go_wp2_with (fail)
    refine (HD _ (hr.later hb01) (hs.later hb01)).out.mono ?_
    rintro e w3 ⟨A3, c3, rfl, ho3, hb3⟩
    have hb03 := bl_call hb01 hb3
    have hr3 := (own_rd ho3).1
    go_wp2_with (fail)
    go_loopg [8, 9] D.length (fun gk nv iv wr => ∃ k : Nat, Hid (k + gk = D.length) ∧ iv = .int .i64 (k : Int) ∧ nv = .int .i64 (mxN (D.take k)) ∧ w3 = wr)
    case atStart => exact ⟨0, by simp [Hid], rfl, rfl, rfl⟩
    case round =>
      obtain ⟨k, HK, rfl, rfl, rfl⟩ := hrel
      rcases gk with _ | gi
      · obtain rfl : k = D.length := HK.out
        rw [List.take_length]
        go_wp2_with (fail)
        go_ret2
        exact ⟨rfl, hb03⟩
      · have hkl : k < D.length := by have h := HK.out; omega
        have hkl' : (k : Int) < (D.length : Int) := by omega
        obtain ⟨b, o, rfl, _, hc⟩ := hr3.at_ (k := k) (by simpa using hkl)
        have hci := hc k _ (ints_get hkl)
        have HS := Lib.hid (mxN_step hkl)
        generalize D.getD k 0 = x at *
        generalize mxN (D.take k) = m at *
        clear hc
        by_cases hx : x < 1000000
        · go_wp2_with (fail)
          all_goals
            go_roundg gi
            case rel => exact ⟨k + 1, by have h := HK.out; show _ = _; omega, by go_num, by rw [HS.out, if_pos (by omega)] <;> first | rfl | (congr 1; omega), rfl⟩
            case measure => omega
        · go_wp2_with (fail)
          go_roundg gi
          case rel => exact ⟨k + 1, by have h := HK.out; show _ = _; omega, by go_num, by rw [HS.out, if_neg (by omega)], rfl⟩
          case measure => omega
  · have e1 : farG Z l p = 0 := by rw [farG, if_neg h1]
    rw [e1]
    clear e1
    generalize placeE Z l p = te at *
    go_enter Try.func42, Try.ntmps42
    go_wp2_with (fail)
    refine HV.out.mono ?_
    rintro e w1 ⟨rfl, hb1⟩
    go_wp2_with (fail)
    go_ret2
    exact ⟨rfl, bl_call hb0 hb1⟩
end Go.Proofs.Ytjgpfnnokdcgoaa
