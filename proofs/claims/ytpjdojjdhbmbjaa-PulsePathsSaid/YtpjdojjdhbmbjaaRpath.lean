/- The points of a path: the document's way, and the comparison of two lists of points. -/
import Derived.Test.YtpjdojjdhbmbjaaPath
import Derived.Test.YtpjdojjdhbmbjaaMath
import Derived.Test.YtpjdojjdhbmbjaaRend
import Derived.WalkSmall
namespace Go.Proofs.Ytpjdojjdhbmbjaa
open Go.RowKit

theorem ptAt_take (m : Int) (p : List Int) (n : Nat) : ∀ k, k ≤ n → ptAt m (p.take n) k = ptAt m p k
  | 0, _ => rfl
  | k + 1, h => by
    have e : (p.take n).getD k 0 = p.getD k 0 := by simp only [List.getD_eq_getElem?_getD, List.getElem?_take]; rw [if_pos (by omega)]
    rw [ptAt, ptAt_take m p n k (by omega), e, ptAt]
theorem ok_take {p : List Int} {m : Int} (h : Ok p m) (n : Nat) : Ok (p.take n) m := by
  refine ⟨by have := h.len; simp; omega, h.mode, fun k => ?_⟩
  rcases Nat.lt_or_ge k n with hk | hk
  · have e : (p.take n).getD k 0 = p.getD k 0 := by simp only [List.getD_eq_getElem?_getD, List.getElem?_take]; rw [if_pos hk]
    rw [e]; exact h.force k
  · have e : (p.take n).getD k 0 = 0 := by simp only [List.getD_eq_getElem?_getD, List.getElem?_take]; rw [if_neg (by omega)]; rfl
    rw [e]; omega
theorem endR_take {p : List Int} {m : Int} (h : Ok p m) {k : Nat} (hk : k ≤ p.length) : endR m (p.take k) = (ptAt m p k).1 := by
  rw [← end_same (ok_take h k), lastP_path, List.length_take, Nat.min_eq_left hk, ptAt_take m p k k (Nat.le_refl _)]

theorem rd_take {w : World} {A : Option Addr} {p : List Int} (h : Rd w A (ints p)) (k : Nat) : Rd w A (ints (p.take k)) := by
  rcases h with h | ⟨b, o, rfl, hb, hc⟩
  · left; simp [ints] at h ⊢; exact .inr h
  · refine .inr ⟨b, o, rfl, hb, fun j v hv => hc j v ?_⟩
    simp only [ints, List.getElem?_map, List.getElem?_take] at hv ⊢
    by_cases hj : j < k
    · rwa [if_pos hj] at hv
    · rw [if_neg hj] at hv; cases hv

set_option maxRecDepth 100000 in
set_option maxHeartbeats 2000000 in
theorem rpath_c (A : Option Addr) (p : List Int) (cap : Nat) (m : Int) (w : World) (hcap : p.length ≤ cap) (hr : Rd w A (ints p)) :
    Calls Try.prog 20 #[.slice A p.length cap, .int .i64 m] w (PtOut (inE p m) (pathG p m) w) := by
  obtain ⟨i0, hi, hz0, hz1, hz2⟩ := info_parts pt_info
  have HV := Lib.hid (moded_c A p cap m w hr)
  by_cases hE : inE p m = 0
  · have hl12 := inE_len hE
    have HOK := Lib.hid (ok_of hE)
    have hg : pathG p m = preL m p (p.length + 1) := by rw [pathG, if_pos hE, preL_all]
    rw [hg]
    rw [hE] at HV ⊢
    clear hg hE
    go_enter Try.func20, Try.ntmps20
    go_wp2_with (fail)
    refine HV.out.mono ?_
    rintro e w' ⟨rfl, rfl⟩
    clear HV
    go_wp2_with (fail)
    go_loopw [7, 8] (fun v i wr => ∃ k : Nat, k ≤ p.length + 1 ∧ i = .int .i64 k ∧ wr.ownsRow w.heap.size 30 2 v k (cellsP (preL m p k)) ∧ Below w.heap.size w wr) (fun _ i _ => p.length + 1 - (intOf i).toNat)
    case atStart => exact ⟨0, Nat.zero_le _, rfl, World.ownsRow_nil _ _ _ _, Below.refl _ _⟩
    case round =>
      obtain ⟨k, hk, rfl, hown, hb⟩ := hrel
      by_cases hlt : k ≤ p.length
      · have HR := rend_c A (p.take k) cap m wr (by simp; omega) (rd_take (hr.later hb) k)
        rw [List.length_take, Nat.min_eq_left hlt, endR_take HOK.out hlt] at HR
        have HR' := Lib.hid HR
        clear HR
        have HT := Lib.hid (preL_succ m p k)
        generalize (ptAt m p k).1 = pk at HR' HT
        generalize preL m p k = L at hown HT
        go_wp2_with (fail)
        refine HR'.out.mono ?_
        rintro e w2 ⟨u, v', rfl, huv, hb2⟩
        subst huv
        have hown2 := own_call hown hb2
        have hb3 := bl_call hb hb2
        clear hown
        go_wp2_with (at_builtin; refine wpList_append_own _ rfl _ _ 25 rfl w.heap.size 30 i0 _ 2 16 Try.underlying25 hi hz0 hz1 hz2 rfl (by decide) _ _ _ rfl (hown2.alloc _) ⟨w2.heap.size, 0, none⟩ 1 1 [.int .i64 u, .int .i64 v'] rfl rfl ?c1 ?c2 ?c3 ?c4 ?c5 ?_)
        case c1 =>
          intro j x hj
          have hadd : (⟨w2.heap.size, 0, none⟩ : Addr).add j = ⟨w2.heap.size, j, none⟩ := by unfold Addr.add; split <;> simp_all
          rw [hadd]
          match j, hj with
          | 0, hj => simp at hj; subst hj; simp
          | 1, hj => simp at hj; subst hj; simp
        case c2 => intro x hx; simp at hx; rcases hx with rfl | rfl <;> rfl
        case c3 => unfold maxLen; omega
        case c4 => omega
        case c5 => have := hb3.size; simp; omega
        intro v2 w4 hown4 hg4 _
        have hb4 : Below w.heap.size w w4 := (bl_alloc hb3 _).trans (grown_below (hown2.alloc _) hg4 (by have := hb3.size; simp; omega))
        have HO : Hid (w4.ownsRow w.heap.size 30 2 v2 (k + 1) (cellsP (preL m p (k + 1)))) := by
          show World.ownsRow _ _ _ _ _ _ _
          rw [HT.out, cellsP_snoc]; exact hown4
        clear hown4 hg4 hown2
        go_wp2_with (fail)
        go_roundw
        case rel => exact ⟨k + 1, by omega, by go_num, HO.out, hb4⟩
        case measure => simp [intOf]; omega
      · obtain rfl : k = p.length + 1 := by omega
        obtain ⟨A', c, rfl⟩ := own_form hown
        go_wp2_with (fail)
        go_ret2
        exact ⟨A', c, by simp [preL], (own_rd hown).1, hb⟩
  · have hE' : (inE p m != 0) = true := by simpa using hE
    have hg : pathG p m = [] := by rw [pathG, if_neg hE]
    rw [hg]
    clear hg hE
    go_enter Try.func20, Try.ntmps20
    go_wp2_with (fail)
    refine HV.out.mono ?_
    rintro e w' ⟨rfl, rfl⟩
    go_wp2_with (fail)
    go_ret2
    exact ⟨none, 0, rfl, .inl rfl, Below.refl _ _⟩

theorem take_sameP {p q : List (Int × Int)} {k : Nat} (hp : k < p.length) (hq : k < q.length) (h : p.take k = q.take k) (he : p.getD k (0, 0) = q.getD k (0, 0)) : p.take (k + 1) = q.take (k + 1) := by
  rw [List.take_succ_eq_append_getElem hp, List.take_succ_eq_append_getElem hq, h]
  simp [hp, hq] at he
  rw [he]
theorem not_sameP {p q : List (Int × Int)} {k : Nat} (he : p.getD k (0, 0) ≠ q.getD k (0, 0)) : decide (p = q) = false := by
  simp only [decide_eq_false_iff_not]
  rintro rfl
  exact he rfl

set_option maxRecDepth 100000 in
set_option maxHeartbeats 1000000 in
theorem samePoints_c (A B : Option Addr) (p q : List (Int × Int)) (cap cap' : Nat) (w : World) (hlen : p.length ≤ 9223372036854775806) (hr : Rd w A (cellsP p)) (hq : Rd w B (cellsP q)) :
    Calls Try.prog 25 #[.slice A p.length cap, .slice B q.length cap'] w fun e w' => e = .returned (.bool (decide (p = q))) ∧ Below w.heap.size w w' := by
  by_cases hl : p.length = q.length
  · have hne : ((p.length : Int) != (q.length : Int)) = false := by simp [hl]
    have HL := Lib.hid hl
    clear hl
    go_enter Try.func25, Try.ntmps25
    go_wp2
    go_loopw [5] (fun i wr => ∃ k : Nat, k ≤ p.length ∧ i = .int .i64 k ∧ Hid (p.take k = q.take k) ∧ Below w.heap.size w wr) (fun i _ => p.length - (intOf i).toNat)
    case atStart => exact ⟨0, Nat.zero_le _, rfl, by simp [Hid], Below.refl _ _⟩
    case round =>
      obtain ⟨k, hk, rfl, ht, hb⟩ := hrel
      by_cases hlt : k < p.length
      · have hlt' : k < q.length := by have := HL.out; omega
        obtain ⟨b, o, rfl, _, hc⟩ := (hr.later hb).at_ (k := k * 2) (by simp; omega)
        obtain ⟨b', o', rfl, _, hc'⟩ := (hq.later hb).at_ (k := k * 2) (by simp; omega)
        have hck := hc _ _ (cellsP_get p k hlt).1
        have hck2 := hc _ _ (cellsP_get p k hlt).2
        have hck' := hc' _ _ (cellsP_get q k hlt').1
        have hck2' := hc' _ _ (cellsP_get q k hlt').2
        clear hc hc'
        have H1 := Lib.hid (take_sameP hlt hlt' ht.out)
        have H2 := Lib.hid (@not_sameP p q k)
        generalize p.getD k (0, 0) = f at hck hck2 H1 H2
        generalize q.getD k (0, 0) = g at hck' hck2' H1 H2
        obtain ⟨f1, f2⟩ := f
        obtain ⟨g1, g2⟩ := g
        simp only [] at hck hck2 hck' hck2'
        rw [← Nat.add_assoc] at hck2 hck2'
        by_cases hfg : f1 = g1 ∧ f2 = g2
        · obtain ⟨rfl, rfl⟩ := hfg
          go_wp2
          go_quiet (fail)
          go_wp2
          go_roundw
          case rel => exact ⟨k + 1, by omega, by go_num, H1.out (by simp), below_drewN hb _⟩
          case measure => simp [intOf]; omega
        · have hne2 : Hid (((f1, f2) : Int × Int) ≠ (g1, g2)) := by
            show _ ≠ _
            rintro e; cases e; exact hfg ⟨rfl, rfl⟩
          by_cases h1 : f1 = g1
          · subst h1
            have h2 : (f2 == g2) = false := by simpa using fun h => hfg ⟨rfl, h⟩
            clear hfg
            go_wp2
            go_quiet (fail)
            go_wp2
            go_ret
            exact ⟨ret_b (H2.out hne2.out), below_drewN hb _⟩
          · have h2 : (f1 == g1) = false := by simpa using h1
            clear hfg h1
            go_wp2
            go_quiet (fail)
            go_wp2
            go_ret
            exact ⟨ret_b (H2.out hne2.out), below_drewN hb _⟩
      · obtain rfl : k = p.length := by omega
        go_wp2
        go_ret
        exact ⟨ret_b (by have h := ht.out; rw [List.take_length, HL.out, List.take_length] at h; simp [h]), hb⟩
  · have hne : ((p.length : Int) != (q.length : Int)) = true := by simp; omega
    have hd : decide (p = q) = false := by simp only [decide_eq_false_iff_not]; rintro rfl; exact hl rfl
    go_enter Try.func25, Try.ntmps25
    go_wp2
    go_ret
    exact ⟨ret_b hd, Below.refl _ _⟩
end Go.Proofs.Ytpjdojjdhbmbjaa
