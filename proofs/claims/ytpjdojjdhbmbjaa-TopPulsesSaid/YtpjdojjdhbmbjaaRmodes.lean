/- In which modes a pulse is closed, and calm, by the specification. -/
import Derived.Test.YtpjdojjdhbmbjaaModes
import Derived.Test.YtpjdojjdhbmbjaaMath2
namespace Go.Proofs.Ytpjdojjdhbmbjaa
open Go.RowKit

def closedR (p : List Int) (m : Int) : Bool := endR m p == (0, 0)
def calmR (p : List Int) (m : Int) : Bool := closedR p m && sumR m p == (0, 0)
theorem pair_yes : (((0, 0) : Int × Int) == (0, 0)) = true := rfl
theorem pair_no {u v : Int} (h : ¬ (u = 0 ∧ v = 0)) : (((u, v) : Int × Int) == (0, 0)) = false := by
  rw [beq_eq_false_iff_ne]; intro e; cases e; exact h ⟨rfl, rfl⟩
theorem modes_same {B C : Int → Bool} {p : List Int} (h : ∀ m, Ok p m → B m = C m) : modesG p B = modesG p C := by
  unfold modesG
  split
  · rename_i hv
    have hb : ∀ k : Nat, k < 4 → B k = C k := fun k hk => h k (ok_of (by
      unfold inE; rw [if_pos hv, if_pos]; simp [inB]; omega))
    have e : ∀ k, k ≤ 4 → modesF B k = modesF C k := by
      intro k
      induction k with
      | zero => intro _; rfl
      | succ k ih =>
        intro hk
        have h1 := hb k (by omega)
        cases hc : C k with
        | true => rw [modesF_yes B k (h1.trans hc), modesF_yes C k hc, ih (by omega)]
        | false => rw [modesF_no B k (h1.trans hc), modesF_no C k hc, ih (by omega)]
    exact e 4 (Nat.le_refl _)
  · rfl
theorem closed_same (p : List Int) : modesG p (closedB p) = modesG p (closedR p) := modes_same fun m h => by rw [closedB, closedR, end_same h]
theorem calm_same (p : List Int) : modesG p (calmB p) = modesG p (calmR p) := modes_same fun m h => by rw [calmB, calmR, closedB, closedR, end_same h, sum_same h]

set_option maxRecDepth 100000 in
set_option maxHeartbeats 800000 in
theorem rClosed_c (A : Option Addr) (p : List Int) (cap : Nat) (w : World) (hlen : p.length ≤ 1000) (hr : Rd w A (ints p)) :
    Calls Try.prog 31 #[.slice A p.length cap] w fun e w' => ∃ A' c, e = .returned (.tuple #[.slice A' (modesG p (closedR p)).length c, .int .i64 (validE p)]) ∧ Rd w' A' (ints (modesG p (closedR p))) ∧ Below w.heap.size w w' := by
  obtain ⟨i0, hi, hz0, hz1, hz2⟩ := info_parts int_info
  have HV := Lib.hid (rvalidate_c A p cap w hr)
  have HG : Hid (modesG p (closedR p) = if validE p = 0 then modesF (closedR p) 4 else []) := rfl
  generalize validE p = E at HV HG
  by_cases hE : (E != 0) = true
  · have hg : modesG p (closedR p) = [] := by rw [HG.out, if_neg (by simpa using hE)]
    rw [hg]
    clear hg HG
    go_enter Try.func31, Try.ntmps31
    go_wp2_with (fail)
    refine HV.out.mono ?_
    rintro e w' ⟨rfl, rfl⟩
    go_wp2_with (fail)
    go_ret2
    exact ⟨none, 0, rfl, .inl rfl, Below.refl _ _⟩
  · have hE' : (E != 0) = false := by simpa using hE
    have hE0 : E = 0 := by simpa using hE'
    have hg : modesG p (closedR p) = modesF (closedR p) 4 := by rw [HG.out, if_pos hE0]
    rw [hg]
    subst hE0
    clear hg HG hE hE'
    go_enter Try.func31, Try.ntmps31
    go_wp2_with (fail)
    refine HV.out.mono ?_
    rintro e w' ⟨rfl, rfl⟩
    clear HV
    go_wp2_with (fail)
    go_loopw [5, 6] (fun v i wr => ∃ k : Nat, k ≤ 4 ∧ i = .int .i64 k ∧ wr.ownsRow w.heap.size 3 1 v (modesF (closedR p) k).length (ints (modesF (closedR p) k)) ∧ Below w.heap.size w wr) (fun _ i _ => 4 - (intOf i).toNat)
    case atStart => exact ⟨0, by omega, rfl, World.ownsRow_nil _ _ _ _, Below.refl _ _⟩
    case round =>
      obtain ⟨k, hk, rfl, hown, hb⟩ := hrel
      by_cases hlt : k < 4
      · have hml := modesF_len (closedR p) k
        have HY := Lib.hid (modesF_yes (closedR p) k)
        have HN := Lib.hid (modesF_no (closedR p) k)
        generalize modesF (closedR p) k = L at hown hml HY HN
        go_wp2_with (fail)
        refine (rend_c A p cap k wr (by omega) (hr.later hb)).mono ?_
        rintro e w2 ⟨u, v, rfl, huv, hb2⟩
        have hown2 := own_call hown hb2
        have hb3 := bl_call hb hb2
        clear hown
        by_cases hu : u = 0 ∧ v = 0
        · obtain ⟨rfl, rfl⟩ := hu
          have hc : closedR p k = true := by rw [closedR, ← huv]; rfl
          clear huv
          have HB : Hid (modesF (closedR p) (k + 1) = L ++ [(k : Int)]) := HY.out (hc)
          clear HY HN
          go_wp2_with (at_builtin; refine wpList_append_own _ rfl _ _ 22 rfl w.heap.size 3 i0 _ 1 8 Try.underlying22 hi hz0 hz1 hz2 rfl (by decide) _ _ _ rfl (hown2.alloc _) ⟨w2.heap.size, 0, none⟩ 1 1 [.int .i64 k] rfl rfl ?c1 ?c2 ?c3 ?c4 ?c5 ?_)
          case c1 =>
            intro j x hj
            have hadd : (⟨w2.heap.size, 0, none⟩ : Addr).add j = ⟨w2.heap.size, j, none⟩ := by unfold Addr.add; split <;> simp_all
            rw [hadd]
            match j, hj with
            | 0, hj => simp at hj; subst hj; simp
          case c2 => intro x hx; simp at hx; rcases hx with rfl; rfl
          case c3 => unfold maxLen; omega
          case c4 => omega
          case c5 => have := hb3.size; simp; omega
          intro v2 w4 hown4 hg4 _
          have hb4 : Below w.heap.size w w4 := (bl_alloc hb3 _).trans (grown_below (hown2.alloc _) hg4 (by have := hb3.size; simp; omega))
          have HO : Hid (w4.ownsRow w.heap.size 3 1 v2 (modesF (closedR p) (k + 1)).length (ints (modesF (closedR p) (k + 1)))) := by
            show World.ownsRow _ _ _ _ _ _ _
            rw [HB.out, ints_snoc, List.length_append]; exact hown4
          clear hown4 hg4 hown2
          go_wp2_with (fail)
          go_roundw
          case rel => exact ⟨k + 1, by omega, by go_num, HO.out, hb4⟩
          case measure => simp [intOf]; omega
        · have hc : closedR p k = false := by rw [closedR, ← huv]; exact pair_no hu
          have HB : Hid (modesF (closedR p) (k + 1) = L) := HN.out hc
          clear HY HN huv hc
          by_cases hu0 : u = 0
          · have hv1 : (v == 0) = false := by simp only [beq_eq_false_iff_ne]; exact fun h => hu ⟨hu0, h⟩
            subst hu0
            clear hu
            go_wp2_with (fail)
            all_goals go_roundw
            case rel => exact ⟨k + 1, by omega, by go_num, by rw [HB.out]; exact hown2, hb3⟩
            case measure => simp [intOf]; omega
          · have hu1 : (u == 0) = false := by simpa using hu0
            clear hu
            go_wp2_with (fail)
            all_goals go_roundw
            case rel => exact ⟨k + 1, by omega, by go_num, by rw [HB.out]; exact hown2, hb3⟩
            case measure => simp [intOf]; omega
      · obtain rfl : k = 4 := by omega
        obtain ⟨A', c, rfl⟩ := own_form hown
        go_wp2_with (fail)
        go_ret2
        exact ⟨A', c, rfl, (own_rd hown).1, hb⟩

set_option maxRecDepth 100000 in
set_option maxHeartbeats 800000 in
theorem rCalm_c (A : Option Addr) (p : List Int) (cap : Nat) (w : World) (hlen : p.length ≤ 1000) (hr : Rd w A (ints p)) :
    Calls Try.prog 33 #[.slice A p.length cap] w fun e w' => ∃ A' c, e = .returned (.tuple #[.slice A' (modesG p (calmR p)).length c, .int .i64 (validE p)]) ∧ Rd w' A' (ints (modesG p (calmR p))) ∧ Below w.heap.size w w' := by
  obtain ⟨i0, hi, hz0, hz1, hz2⟩ := info_parts int_info
  have HV := Lib.hid (rvalidate_c A p cap w hr)
  have HG : Hid (modesG p (calmR p) = if validE p = 0 then modesF (calmR p) 4 else []) := rfl
  generalize validE p = E at HV HG
  by_cases hE : (E != 0) = true
  · have hg : modesG p (calmR p) = [] := by rw [HG.out, if_neg (by simpa using hE)]
    rw [hg]
    clear hg HG
    go_enter Try.func33, Try.ntmps33
    go_wp2_with (fail)
    refine HV.out.mono ?_
    rintro e w' ⟨rfl, rfl⟩
    go_wp2_with (fail)
    go_ret2
    exact ⟨none, 0, rfl, .inl rfl, Below.refl _ _⟩
  · have hE' : (E != 0) = false := by simpa using hE
    have hE0 : E = 0 := by simpa using hE'
    have hg : modesG p (calmR p) = modesF (calmR p) 4 := by rw [HG.out, if_pos hE0]
    rw [hg]
    subst hE0
    clear hg HG hE hE'
    go_enter Try.func33, Try.ntmps33
    go_wp2_with (fail)
    refine HV.out.mono ?_
    rintro e w' ⟨rfl, rfl⟩
    clear HV
    go_wp2_with (fail)
    go_loopw [5, 6] (fun v i wr => ∃ k : Nat, k ≤ 4 ∧ i = .int .i64 k ∧ wr.ownsRow w.heap.size 3 1 v (modesF (calmR p) k).length (ints (modesF (calmR p) k)) ∧ Below w.heap.size w wr) (fun _ i _ => 4 - (intOf i).toNat)
    case atStart => exact ⟨0, by omega, rfl, World.ownsRow_nil _ _ _ _, Below.refl _ _⟩
    case round =>
      obtain ⟨k, hk, rfl, hown, hb⟩ := hrel
      by_cases hlt : k < 4
      · have hml := modesF_len (calmR p) k
        have HY := Lib.hid (modesF_yes (calmR p) k)
        have HN := Lib.hid (modesF_no (calmR p) k)
        generalize modesF (calmR p) k = L at hown hml HY HN
        go_wp2_with (fail)
        refine (rend_c A p cap k wr (by omega) (hr.later hb)).mono ?_
        rintro e w1 ⟨u, v, rfl, huv, hb1⟩
        have hown1 := own_call hown hb1
        have hb2 := bl_call hb hb1
        clear hown
        by_cases hu : u = 0 ∧ v = 0
        · obtain ⟨rfl, rfl⟩ := hu
          have hcl : closedR p k = true := by rw [closedR, ← huv]; rfl
          clear huv
          have HCL := Lib.hid hcl
          clear hcl
          go_wp2_with (fail)
          refine (rsum_c A p cap k w1 (by omega) (hr.later hb2)).mono ?_
          rintro e w2 ⟨u, v, rfl, huv, hbs⟩
          have hown2 := own_call hown1 hbs
          have hb3 := bl_call hb2 hbs
          clear hown1
          by_cases hu : u = 0 ∧ v = 0
          · obtain ⟨rfl, rfl⟩ := hu
            have hc : calmR p k = true := by rw [calmR, HCL.out, ← huv]; rfl
            clear huv
            have HB : Hid (modesF (calmR p) (k + 1) = L ++ [(k : Int)]) := HY.out (hc)
            clear HY HN
            go_wp2_with (at_builtin; refine wpList_append_own _ rfl _ _ 22 rfl w.heap.size 3 i0 _ 1 8 Try.underlying22 hi hz0 hz1 hz2 rfl (by decide) _ _ _ rfl (hown2.alloc _) ⟨w2.heap.size, 0, none⟩ 1 1 [.int .i64 k] rfl rfl ?c1 ?c2 ?c3 ?c4 ?c5 ?_)
            case c1 =>
              intro j x hj
              have hadd : (⟨w2.heap.size, 0, none⟩ : Addr).add j = ⟨w2.heap.size, j, none⟩ := by unfold Addr.add; split <;> simp_all
              rw [hadd]
              match j, hj with
              | 0, hj => simp at hj; subst hj; simp
            case c2 => intro x hx; simp at hx; rcases hx with rfl; rfl
            case c3 => unfold maxLen; omega
            case c4 => omega
            case c5 => have := hb3.size; simp; omega
            intro v2 w4 hown4 hg4 _
            have hb4 : Below w.heap.size w w4 := (bl_alloc hb3 _).trans (grown_below (hown2.alloc _) hg4 (by have := hb3.size; simp; omega))
            have HO : Hid (w4.ownsRow w.heap.size 3 1 v2 (modesF (calmR p) (k + 1)).length (ints (modesF (calmR p) (k + 1)))) := by
              show World.ownsRow _ _ _ _ _ _ _
              rw [HB.out, ints_snoc, List.length_append]; exact hown4
            clear hown4 hg4 hown2
            go_wp2_with (fail)
            go_roundw
            case rel => exact ⟨k + 1, by omega, by go_num, HO.out, hb4⟩
            case measure => simp [intOf]; omega
          · have hc : calmR p k = false := by rw [calmR, HCL.out, ← huv]; exact pair_no hu
            clear huv
            have HB : Hid (modesF (calmR p) (k + 1) = L) := HN.out hc
            clear HY HN hc
            by_cases hu0 : u = 0
            · have hv1 : (v == 0) = false := by simp only [beq_eq_false_iff_ne]; exact fun h => hu ⟨hu0, h⟩
              subst hu0
              clear hu
              go_wp2_with (fail)
              all_goals go_roundw
              case rel => exact ⟨k + 1, by omega, by go_num, by rw [HB.out]; exact hown2, hb3⟩
              case measure => simp [intOf]; omega
            · have hu1 : (u == 0) = false := by simpa using hu0
              clear hu
              go_wp2_with (fail)
              all_goals go_roundw
              case rel => exact ⟨k + 1, by omega, by go_num, by rw [HB.out]; exact hown2, hb3⟩
              case measure => simp [intOf]; omega
        · have hc : calmR p k = false := by rw [calmR, closedR, ← huv, pair_no hu]; rfl
          clear huv
          have HB : Hid (modesF (calmR p) (k + 1) = L) := HN.out hc
          clear HY HN hc
          by_cases hu0 : u = 0
          · have hv1 : (v == 0) = false := by simp only [beq_eq_false_iff_ne]; exact fun h => hu ⟨hu0, h⟩
            subst hu0
            clear hu
            go_wp2_with (fail)
            all_goals go_roundw
            case rel => exact ⟨k + 1, by omega, by go_num, by rw [HB.out]; exact hown1, hb2⟩
            case measure => simp [intOf]; omega
          · have hu1 : (u == 0) = false := by simpa using hu0
            clear hu
            go_wp2_with (fail)
            all_goals go_roundw
            case rel => exact ⟨k + 1, by omega, by go_num, by rw [HB.out]; exact hown1, hb2⟩
            case measure => simp [intOf]; omega
      · obtain rfl : k = 4 := by omega
        obtain ⟨A', c, rfl⟩ := own_form hown
        go_wp2_with (fail)
        go_ret2
        exact ⟨A', c, rfl, (own_rd hown).1, hb⟩
end Go.Proofs.Ytpjdojjdhbmbjaa
