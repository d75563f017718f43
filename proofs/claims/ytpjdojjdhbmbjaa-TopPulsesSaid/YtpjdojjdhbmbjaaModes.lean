/- In which modes a pulse is closed, and calm: both ways. -/
import Derived.Test.YtpjdojjdhbmbjaaClo
import Derived.Test.YtpjdojjdhbmbjaaOwn
import Derived.Test.YtpjdojjdhbmbjaaPul
namespace Go.Proofs.Ytpjdojjdhbmbjaa
open Go.RowKit

/-- The modes below k for which B says yes. -/
def modesF (B : Int → Bool) (k : Nat) : List Int := ((List.range k).map (fun (i : Nat) => (i : Int))).filter B
theorem modesF_yes (B : Int → Bool) (k : Nat) (h : B k = true) : modesF B (k + 1) = modesF B k ++ [(k : Int)] := by simp [modesF, List.range_succ, List.filter_append, h]
theorem modesF_no (B : Int → Bool) (k : Nat) (h : B k = false) : modesF B (k + 1) = modesF B k := by simp [modesF, List.range_succ, List.filter_append, h]
theorem modesF_len (B : Int → Bool) (k : Nat) : (modesF B k).length ≤ k := by
  unfold modesF; exact Nat.le_trans (List.length_filter_le _ _) (by simp)
theorem ints_snoc (xs : List Int) (x : Int) : ints (xs ++ [x]) = ints xs ++ [.int .i64 x] := by simp [ints]
def modesG (p : List Int) (B : Int → Bool) : List Int := if validE p = 0 then modesF B 4 else []

set_option maxRecDepth 100000 in
set_option maxHeartbeats 400000 in
theorem modesClosed_c (A : Option Addr) (p : List Int) (cap : Nat) (w : World) (hlen : p.length ≤ 1000) (hr : Rd w A (ints p)) :
    Calls Try.prog 66 #[.slice A p.length cap, .func (.func 67) #[] #[]] w fun e w' => ∃ A' c, e = .returned (.tuple #[.slice A' (modesG p (closedB p)).length c, .int .i64 (validE p)]) ∧ Rd w' A' (ints (modesG p (closedB p))) ∧ Below w.heap.size w w' := by
  obtain ⟨i0, hi, hz0, hz1, hz2⟩ := info_parts int_info
  have HV := Lib.hid (validate_c A p cap w hr)
  have HG : Hid (modesG p (closedB p) = if validE p = 0 then modesF (closedB p) 4 else []) := rfl
  generalize validE p = E at HV HG
  by_cases hE : (E != 0) = true
  · have hg : modesG p (closedB p) = [] := by rw [HG.out, if_neg (by simpa using hE)]
    rw [hg]
    clear hg HG
    go_enter Try.func66, Try.ntmps66
    go_wp2_with (fail)
    refine HV.out.mono ?_
    rintro e w' ⟨rfl, rfl⟩
    go_wp2_with (fail)
    go_ret2
    exact ⟨none, 0, rfl, .inl rfl, Below.refl _ _⟩
  · have hE' : (E != 0) = false := by simpa using hE
    have hE0 : E = 0 := by simpa using hE'
    have hg : modesG p (closedB p) = modesF (closedB p) 4 := by rw [HG.out, if_pos hE0]
    rw [hg]
    subst hE0
    clear hg HG hE hE'
    go_enter Try.func66, Try.ntmps66
    go_wp2_with (fail)
    refine HV.out.mono ?_
    rintro e w' ⟨rfl, rfl⟩
    clear HV
    go_wp2_with (fail)
    go_loopw [7, 14] (fun v i wr => ∃ k : Nat, k ≤ 4 ∧ i = .int .i64 k ∧ wr.ownsRow w.heap.size 3 1 v (modesF (closedB p) k).length (ints (modesF (closedB p) k)) ∧ Below w.heap.size w wr) (fun _ i _ => 4 - (intOf i).toNat)
    case atStart => exact ⟨0, by omega, rfl, World.ownsRow_nil _ _ _ _, Below.refl _ _⟩
    case round =>
      obtain ⟨k, hk, rfl, hown, hb⟩ := hrel
      by_cases hlt : k < 4
      · have hml := modesF_len (closedB p) k
        have HY := Lib.hid (modesF_yes (closedB p) k)
        have HN := Lib.hid (modesF_no (closedB p) k)
        have HC := Lib.hid (isClosed_c A p cap k wr (by omega) (hr.later hb))
        generalize hb0 : closedB p k = b at HC HY HN
        clear hb0
        generalize modesF (closedB p) k = L at hown hml HY HN
        go_wp2_with (fail)
        refine HC.out.mono ?_
        rintro e w2 ⟨rfl, hb2⟩
        have hown2 := own_call hown hb2
        have hb3 := bl_call hb hb2
        clear HC hown
        cases b with
        | false =>
          go_wp2_with (fail)
          go_roundw
          case rel => exact ⟨k + 1, by omega, by go_num, by rw [HN.out trivial]; exact hown2, hb3⟩
          case measure => simp [intOf]; omega
        | true =>
          go_wp2_with (at_builtin; refine wpList_append_own _ rfl _ _ 22 rfl w.heap.size 3 i0 _ 1 8 Try.underlying22 hi hz0 hz1 hz2 rfl (by decide) _ _ _ rfl (hown2.alloc _) ⟨w2.heap.size, 0, none⟩ 1 1 [.int .i64 k] rfl rfl ?c1 ?c2 ?c3 ?c4 ?c5 ?_)
          case c1 =>
            intro j x hj
            have hadd : (⟨w2.heap.size, 0, none⟩ : Addr).add j = ⟨w2.heap.size, j, none⟩ := by unfold Addr.add; split <;> simp_all
            rw [hadd]
            match j, hj with
            | 0, hj => simp at hj; subst hj; simp
          case c2 => intro x hx; simp at hx; rcases hx with rfl; rfl
          case c3 => unfold maxLen; omega
          case c4 => omega
          case c5 => have := hb3.size; simp; omega
          intro v2 w4 hown4 hg4 _
          have hb4 : Below w.heap.size w w4 := (bl_alloc hb3 _).trans (grown_below (hown2.alloc _) hg4 (by have := hb3.size; simp; omega))
          have HO : Hid (w4.ownsRow w.heap.size 3 1 v2 (modesF (closedB p) (k + 1)).length (ints (modesF (closedB p) (k + 1)))) := by
            show World.ownsRow _ _ _ _ _ _ _
            rw [HY.out trivial, ints_snoc, List.length_append]; exact hown4
          clear hown4 hg4 hown2
          go_wp2_with (fail)
          go_roundw
          case rel => exact ⟨k + 1, by omega, by go_num, HO.out, hb4⟩
          case measure => simp [intOf]; omega
      · obtain rfl : k = 4 := by omega
        obtain ⟨A', c, rfl⟩ := own_form hown
        go_wp2_with (fail)
        go_ret2
        exact ⟨A', c, rfl, (own_rd hown).1, hb⟩

set_option maxRecDepth 100000 in
set_option maxHeartbeats 400000 in
theorem modesCalm_c (A : Option Addr) (p : List Int) (cap : Nat) (w : World) (hlen : p.length ≤ 1000) (hr : Rd w A (ints p)) :
    Calls Try.prog 66 #[.slice A p.length cap, .func (.func 68) #[] #[]] w fun e w' => ∃ A' c, e = .returned (.tuple #[.slice A' (modesG p (calmB p)).length c, .int .i64 (validE p)]) ∧ Rd w' A' (ints (modesG p (calmB p))) ∧ Below w.heap.size w w' := by
  obtain ⟨i0, hi, hz0, hz1, hz2⟩ := info_parts int_info
  have HV := Lib.hid (validate_c A p cap w hr)
  have HG : Hid (modesG p (calmB p) = if validE p = 0 then modesF (calmB p) 4 else []) := rfl
  generalize validE p = E at HV HG
  by_cases hE : (E != 0) = true
  · have hg : modesG p (calmB p) = [] := by rw [HG.out, if_neg (by simpa using hE)]
    rw [hg]
    clear hg HG
    go_enter Try.func66, Try.ntmps66
    go_wp2_with (fail)
    refine HV.out.mono ?_
    rintro e w' ⟨rfl, rfl⟩
    go_wp2_with (fail)
    go_ret2
    exact ⟨none, 0, rfl, .inl rfl, Below.refl _ _⟩
  · have hE' : (E != 0) = false := by simpa using hE
    have hE0 : E = 0 := by simpa using hE'
    have hg : modesG p (calmB p) = modesF (calmB p) 4 := by rw [HG.out, if_pos hE0]
    rw [hg]
    subst hE0
    clear hg HG hE hE'
    go_enter Try.func66, Try.ntmps66
    go_wp2_with (fail)
    refine HV.out.mono ?_
    rintro e w' ⟨rfl, rfl⟩
    clear HV
    go_wp2_with (fail)
    go_loopw [7, 14] (fun v i wr => ∃ k : Nat, k ≤ 4 ∧ i = .int .i64 k ∧ wr.ownsRow w.heap.size 3 1 v (modesF (calmB p) k).length (ints (modesF (calmB p) k)) ∧ Below w.heap.size w wr) (fun _ i _ => 4 - (intOf i).toNat)
    case atStart => exact ⟨0, by omega, rfl, World.ownsRow_nil _ _ _ _, Below.refl _ _⟩
    case round =>
      obtain ⟨k, hk, rfl, hown, hb⟩ := hrel
      by_cases hlt : k < 4
      · have hml := modesF_len (calmB p) k
        have HY := Lib.hid (modesF_yes (calmB p) k)
        have HN := Lib.hid (modesF_no (calmB p) k)
        have HC := Lib.hid (isCalm_c A p cap k wr (by omega) (hr.later hb))
        generalize hb0 : calmB p k = b at HC HY HN
        clear hb0
        generalize modesF (calmB p) k = L at hown hml HY HN
        go_wp2_with (fail)
        refine HC.out.mono ?_
        rintro e w2 ⟨rfl, hb2⟩
        have hown2 := own_call hown hb2
        have hb3 := bl_call hb hb2
        clear HC hown
        cases b with
        | false =>
          go_wp2_with (fail)
          go_roundw
          case rel => exact ⟨k + 1, by omega, by go_num, by rw [HN.out trivial]; exact hown2, hb3⟩
          case measure => simp [intOf]; omega
        | true =>
          go_wp2_with (at_builtin; refine wpList_append_own _ rfl _ _ 22 rfl w.heap.size 3 i0 _ 1 8 Try.underlying22 hi hz0 hz1 hz2 rfl (by decide) _ _ _ rfl (hown2.alloc _) ⟨w2.heap.size, 0, none⟩ 1 1 [.int .i64 k] rfl rfl ?c1 ?c2 ?c3 ?c4 ?c5 ?_)
          case c1 =>
            intro j x hj
            have hadd : (⟨w2.heap.size, 0, none⟩ : Addr).add j = ⟨w2.heap.size, j, none⟩ := by unfold Addr.add; split <;> simp_all
            rw [hadd]
            match j, hj with
            | 0, hj => simp at hj; subst hj; simp
          case c2 => intro x hx; simp at hx; rcases hx with rfl; rfl
          case c3 => unfold maxLen; omega
          case c4 => omega
          case c5 => have := hb3.size; simp; omega
          intro v2 w4 hown4 hg4 _
          have hb4 : Below w.heap.size w w4 := (bl_alloc hb3 _).trans (grown_below (hown2.alloc _) hg4 (by have := hb3.size; simp; omega))
          have HO : Hid (w4.ownsRow w.heap.size 3 1 v2 (modesF (calmB p) (k + 1)).length (ints (modesF (calmB p) (k + 1)))) := by
            show World.ownsRow _ _ _ _ _ _ _
            rw [HY.out trivial, ints_snoc, List.length_append]; exact hown4
          clear hown4 hg4 hown2
          go_wp2_with (fail)
          go_roundw
          case rel => exact ⟨k + 1, by omega, by go_num, HO.out, hb4⟩
          case measure => simp [intOf]; omega
      · obtain rfl : k = 4 := by omega
        obtain ⟨A', c, rfl⟩ := own_form hown
        go_wp2_with (fail)
        go_ret2
        exact ⟨A', c, rfl, (own_rd hown).1, hb⟩

theorem closed_c (A : Option Addr) (p : List Int) (cap : Nat) (w : World) (hlen : p.length ≤ 1000) (hr : Rd w A (ints p)) :
    Calls Try.prog 30 #[.slice A p.length cap] w fun e w' => ∃ A' c, e = .returned (.tuple #[.slice A' (modesG p (closedB p)).length c, .int .i64 (validE p)]) ∧ Rd w' A' (ints (modesG p (closedB p))) ∧ Below w.heap.size w w' := by
  have H := Lib.hid (modesClosed_c A p cap w hlen hr)
  generalize modesG p (closedB p) = L at H
  go_enter Try.func30, Try.ntmps30
  go_wp2_with (fail)
  refine H.out.mono ?_
  rintro e w1 ⟨A', c, rfl, hrd, hb⟩
  go_wp2_with (fail)
  go_ret2
  exact ⟨A', c, rfl, hrd, hb⟩

theorem calm_c (A : Option Addr) (p : List Int) (cap : Nat) (w : World) (hlen : p.length ≤ 1000) (hr : Rd w A (ints p)) :
    Calls Try.prog 32 #[.slice A p.length cap] w fun e w' => ∃ A' c, e = .returned (.tuple #[.slice A' (modesG p (calmB p)).length c, .int .i64 (validE p)]) ∧ Rd w' A' (ints (modesG p (calmB p))) ∧ Below w.heap.size w w' := by
  have H := Lib.hid (modesCalm_c A p cap w hlen hr)
  generalize modesG p (calmB p) = L at H
  go_enter Try.func32, Try.ntmps32
  go_wp2_with (fail)
  refine H.out.mono ?_
  rintro e w1 ⟨A', c, rfl, hrd, hb⟩
  go_wp2_with (fail)
  go_ret2
  exact ⟨A', c, rfl, hrd, hb⟩
end Go.Proofs.Ytpjdojjdhbmbjaa
