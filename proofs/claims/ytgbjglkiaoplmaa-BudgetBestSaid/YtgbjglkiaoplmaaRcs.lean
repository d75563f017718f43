/- All choices, one after another: the document's choices. -/
import Derived.Test.YtgbjglkiaoplmaaRch
import Derived.Test.YtgbjglkiaoplmaaOpt
namespace Go.Proofs.Ytgbjglkiaoplmaa
open Go.RowKit

theorem list_info : (Try.prog.info? 40).map (fun i => (i.zero, i.size, i.bytes)) = some (some (.slice none 0 0), 1, 24) := by kernel_rfl
theorem own_emptyN {w0 w : World} {g : Nat} (hb : w0.heap.size ≤ g) (h : Bx w g 3 #[]) : w.ownsRow w0.heap.size 3 1 (.slice (some ⟨g, 0, none⟩) 0 0) ([] : List Int).length (ints []) :=
  ⟨rfl, .inr ⟨g, 0, #[], rfl, hb, h, Nat.le_refl _, by decide, rfl, rfl⟩⟩
/-- Numbers of another row, too. -/
theorem append_ints (base : Nat) (w : World) (v : Value) (l : List Int) (B : Option Addr) (m : List Int) (c : Nat) (hown : w.ownsRow base 3 1 v l.length (ints l)) (hr : Rd w B (ints m)) (hlen : l.length ≤ 100000) (hlen2 : m.length ≤ 100000) (hb : base ≤ w.heap.size) :
    ∃ A' c' w', (∀ ty, (Builtin.append_ #[40, 40] ty #[v, .slice B m.length c]).run Try.prog w = .ok (.slice A' (l.length + m.length) c') w') ∧
      w'.ownsRow base 3 1 (.slice A' (l.length + m.length) c') (l.length + m.length) (ints (l ++ m)) ∧ w.grownBy w' v.ownBlock := by
  obtain ⟨i0, hi, hz0, hz1, hz2⟩ := info_parts int_info
  obtain ⟨A', c', w2, h1, h2, h3⟩ := run_append_rows (P := Try.prog) w base 40 3 i0 _ 1 8 Try.underlying40 hi hz0 hz1 hz2 rfl (by decide) v l.length (ints l) hown B m.length c (ints m) (by simp) (ints_one m) hr (by unfold maxLen; omega) (by omega) hb
  refine ⟨A', c', w2, h1, ?_, h3⟩
  have e : ints (l ++ m) = ints l ++ ints m := by simp [ints]
  rw [e]; exact h2
section
variable {w w' : World} {base : Nat} {hs hs' : List Value} {ls ls' : List (List Int)}
theorem Tab.app (h : Tab w base hs ls) (h' : Tab w base hs' ls') : Tab w base (hs ++ hs') (ls ++ ls') := by
  refine ⟨by simp [h.1, h'.1], fun k hk => ?_⟩
  rcases Nat.lt_or_ge k ls.length with hlt | hge
  · obtain ⟨A, c, h1, h2⟩ := h.2 k hlt
    have e : (ls ++ ls').getD k [] = ls.getD k [] := by simp [List.getD_eq_getElem?_getD, List.getElem?_append_left hlt]
    rw [e]
    exact ⟨A, c, by rw [List.getElem?_append_left (by rw [h.1]; exact hlt)]; exact h1, h2⟩
  · obtain ⟨j, rfl⟩ : ∃ j, k = ls.length + j := ⟨k - ls.length, by omega⟩
    rw [List.length_append] at hk
    obtain ⟨A, c, h1, h2⟩ := h'.2 j (by omega)
    have e : (ls ++ ls').getD (ls.length + j) [] = ls'.getD j [] := by simp [List.getD_eq_getElem?_getD, List.getElem?_append_right (Nat.le_add_right ls.length j)]
    rw [e]
    refine ⟨A, c, ?_, h2⟩
    rw [List.getElem?_append_right (by rw [h.1]; omega), h.1, Nat.add_sub_cancel_left]; exact h1
theorem Tab.one (h : Tab w base hs ls) : ∀ u ∈ hs, u.oneCell' = true := by
  intro u hu
  obtain ⟨k, hk, rfl⟩ := List.getElem_of_mem hu
  obtain ⟨A, c, h1, _⟩ := h.2 k (by rw [← h.1]; exact hk)
  rw [List.getElem?_eq_getElem hk] at h1
  rw [Option.some.inj h1]; rfl
end
theorem go_len (fs : List Fx) : ∀ (g : Nat) (b : List Int), (goF fs g b).length + 1 ≤ 2 ^ g
  | 0, b => by simp [goF]
  | g + 1, b => by
    have h1 := go_len fs g (nextB fs b g)
    have h2 := go_len fs g b
    rw [goF, List.length_append, Nat.pow_succ]
    split
    · rw [List.length_cons]; omega
    · rw [List.length_nil]; omega
/-- All choices that begin with one: the slice of this one itself, and rows of the call's own. -/
def OutCh (fs : List Fx) (g : Nat) (b : List Int) (A : Option Addr) (cap : Nat) (w : World) (e : Ending) (w' : World) : Prop :=
  ∃ A' c' hs, e = .returned (.slice A' (hs.length + 1) c') ∧ w'.ownsRow w.heap.size 40 1 (.slice A' (hs.length + 1) c') (hs.length + 1) (.slice A b.length cap :: hs) ∧ Tab w' w.heap.size hs (goF fs g b) ∧ Below w.heap.size w w'
set_option maxRecDepth 100000 in
set_option maxHeartbeats 4000000 in
theorem rchoices_c (B : Option Addr) (fs : List Fx) (cap2 : Nat) (hn : fs.length ≤ 8) (g : Nat) : ∀ (A : Option Addr) (b : List Int) (cap : Nat) (w : World), g ≤ fs.length → b.length ≤ fs.length - g →
    ((b.length = 0 ∧ g = fs.length) ∨ (0 < b.length ∧ b.getD (b.length - 1) 0 + 1 = ((fs.length - g : Nat) : Int))) → Rd w B (cellsF fs) → Rd w A (ints b) →
    Calls Try.prog 89 #[.slice B fs.length cap2, .slice A b.length cap] w (OutCh fs g b A cap w) := by
  induction g using Nat.strongRecOn with
  | _ g IH =>
  intro A b cap w hg hbl hfr hf hr
  obtain ⟨i0, hi, hz0, hz1, hz2⟩ := info_parts list_info
  have IH' := Lib.hid IH
  clear IH
  have HGL := Lib.hid (go_len fs)
  have hp8 : 2 ^ g ≤ 256 := Nat.le_trans (Nat.pow_le_pow_right (by decide) (show g ≤ 8 by omega)) (by decide)
  have HG0 : Hid (goF fs 0 b = []) := rfl
  have HGS : Hid (∀ k, goF fs (k + 1) b = (if choE fs (nextB fs b k) = 0 then nextB fs b k :: goF fs k (nextB fs b k) else []) ++ goF fs k b) := fun k => rfl
  have HCh := fun C c cap3 w (hlen : c.length ≤ 1000) hf hr => Lib.hid (rchosen_c B fs cap2 C c cap3 w hlen (by omega) hf hr)
  have hb0 := bl_alloc (Below.refl w.heap.size w) (.cells #[.slice A b.length cap] 40)
  have hown0 : (w.alloc (.cells #[.slice A b.length cap] 40)).ownsRow w.heap.size 40 1 (.slice (some ⟨w.heap.size, 0, none⟩) 1 1) 1 [.slice A b.length cap] :=
    ⟨rfl, .inr ⟨w.heap.size, 1, #[.slice A b.length cap], rfl, Nat.le_refl _, Bx.new w _ _, Nat.le_refl _, by decide, rfl, rfl⟩⟩
  obtain ⟨f, hfeq⟩ : ∃ f, f = fs.length - g := ⟨_, rfl⟩
  have hfg : f + g = fs.length := by omega
  have HFG := Lib.hid hfg
  rw [← hfeq] at hbl hfr
  have hbl8 : b.length ≤ 8 := by omega
  have HBL := Lib.hid hbl
  clear hfeq hbl hg hp8
  have HN := Lib.hid hn
  rcases hfr with ⟨h0, hgn⟩ | ⟨h0, hlast⟩
  · have hf0 : f = 0 := by omega
    subst hf0
    have hz : ¬ (0 : Int) < (b.length : Int) := by omega
    clear h0 hgn hfg hn
    go_enter Try.func89, Try.ntmps89
    go_wp2_with (fail)
    go_loopg [5, 7] g (fun gk ov iv wr => ∃ (i : Nat) (D : List (List Int)) (hs : List Value) (A' : Option Addr) (c' : Nat), Hid (i + gk = fs.length) ∧ Hid (0 ≤ i) ∧ iv = .int .i64 (i : Int) ∧ ov = .slice A' (hs.length + 1) c' ∧ Hid (goF fs g b = D ++ goF fs gk b) ∧ wr.ownsRow w.heap.size 40 1 (.slice A' (hs.length + 1) c') (hs.length + 1) (.slice A b.length cap :: hs) ∧ Tab wr w.heap.size hs D ∧ Below w.heap.size w wr)
    case atStart => exact ⟨0, [], [], some ⟨w.heap.size, 0, none⟩, 1, HFG.out, Nat.le_refl _, rfl, rfl, rfl, hown0, Tab.nil _ _, hb0⟩
    case round =>
      clear hown0 hb0
      obtain ⟨i, D, hs, A', c', HI, HFI, rfl, rfl, HD, hown, htab, hb⟩ := hrel
      rcases gk with _ | gi
      · obtain rfl : i = fs.length := HI.out
        have hD : D = goF fs g b := by have := HD.out; rw [HG0.out, List.append_nil] at this; exact this.symm
        rw [hD] at htab
        go_wp2_with (fail)
        go_ret
        exact ⟨A', c', hs, rfl, hown, htab, hb⟩
      · have hil : i < fs.length := by have := HI.out; omega
        have hil' : (i : Int) < (fs.length : Int) := by omega
        have hi8 : fs.length ≤ 8 := HN.out
        have hnx : nextB fs b gi = b ++ [(i : Int)] := by unfold nextB; rw [show fs.length - (gi + 1) = i by have := HI.out; omega]
        have HSk := Lib.hid (HGS.out gi)
        rw [hnx] at HSk
        have hDl : hs.length ≤ 255 := by
          have h1 := HGL.out g b
          have h2 := congrArg List.length HD.out
          rw [List.length_append] at h2
          rw [htab.1]
          have h3 : 2 ^ g ≤ 256 := Nat.le_trans (Nat.pow_le_pow_right (by decide) (show g ≤ 8 by have := HFG.out; omega)) (by decide)
          omega
        have hbx := bl_alloc (Below.refl wr.heap.size wr) (.cells #[] 3)
        obtain ⟨A1, c1, W1, hE1, o1, g1⟩ := append_ints wr.heap.size (wr.alloc (.cells #[] 3)) _ [] A b cap (own_emptyN (Nat.le_refl _) (Bx.new wr _ _)) ((hr.later hb).later hbx) (by simp) (by omega) hbx.size
        have hW1 : Below wr.heap.size wr W1 := hbx.trans (grown_below (own_emptyN (Nat.le_refl _) (Bx.new wr _ _)) g1 hbx.size)
        simp only [List.length_nil, Nat.zero_add, List.nil_append] at hE1 o1
        obtain ⟨A2, c2, W2, hE2, o2, hW12, _⟩ := append_int wr.heap.size W1 _ b (i : Int) o1 (by omega) hW1.size
        have hW2 : Below wr.heap.size wr W2 := hW1.trans hW12
        have E1 := Lib.hid hE1
        have E2 := Lib.hid hE2
        clear hE1 hE2 g1 o1 hbx hW12 hW1
        have hown2 := own_call hown hW2
        have htab2 := htab.call hW2
        have hb2 := bl_call hb hW2
        have onx := own_base o2 hb.size
        clear hown htab hW2 o2
        have hnl : (b ++ [(i : Int)]).length = b.length + 1 := by simp
        rw [hnl] at onx
        have HCx := HCh A2 (b ++ [(i : Int)]) c2 W2 (by rw [hnl]; omega) (hf.later hb2) (own_rd onx).1
        rw [hnl] at HCx
        go_wp2_with (first | (at_builtin; refine wpList_append_eq rfl _ _ 40 rfl _ _ _ W1 rfl rfl E1.out ?_) | (at_builtin; refine wpList_append_eq rfl _ _ 40 rfl _ _ _ W2 rfl rfl E2.out ?_))
        refine HCx.out.mono ?_
        rintro e w3 ⟨rfl, hb3⟩
        have hown3 := own_call hown2 hb3
        have htab3 := htab2.call hb3
        have onx3 := own_call onx hb3
        have hb03 := bl_call hb2 hb3
        clear hown2 htab2 onx hb2 hb3 HCx
        have HD1 := HD.out
        rw [HSk.out] at HD1
        have hbi : b.length ≤ i := by have := HBL.out; have := HFI.out; omega
        by_cases hch : choE fs (b ++ [(i : Int)]) = 0
        · rw [if_pos hch] at HD1
          have HI2 := IH'.out gi (by have := HFG.out; have := HI.out; have := HFI.out; omega) A2 (b ++ [(i : Int)]) c2 w3 (by have := HI.out; omega) (by rw [hnl]; have := HI.out; omega)
            (.inr ⟨by rw [hnl]; omega, by rw [hnl, Nat.add_sub_cancel]; have := HI.out; simp; omega⟩) (hf.later hb03) (own_rd onx3).1
          unfold OutCh at HI2
          rw [hnl] at HI2
          have HI3 := Lib.hid HI2
          rw [hch]
          clear hch HI2
          go_wp2_with (fail)
          refine HI3.out.mono ?_
          rintro e w4 ⟨A5, c5, hs5, rfl, ho5, ht5, hb4⟩
          have hown4 := own_call hown3 hb4
          have htab4 := htab3.call hb4
          have onx4 := own_call onx3 hb4
          have hb04 := bl_call hb03 hb4
          have ht5' := ht5.lower hb03.size
          have h5l : hs5.length ≤ 255 := by
            have h1 := HGL.out gi (b ++ [(i : Int)])
            rw [ht5.1]
            have h3 : 2 ^ gi ≤ 256 := Nat.le_trans (Nat.pow_le_pow_right (by decide) (show gi ≤ 8 by have := HI.out; omega)) (by decide)
            omega
          have onx5 : w4.ownsRow w.heap.size 3 1 (.slice A2 (b ++ [(i : Int)]).length c2) (b ++ [(i : Int)]).length (ints (b ++ [(i : Int)])) := by rw [hnl]; exact onx4
          have hVl : (Value.slice A2 (b ++ [(i : Int)]).length c2) = .slice A2 (b.length + 1) c2 := by rw [hnl]
          have htN := (htab4.snoc onx5).app ht5'
          rw [hVl] at htN
          obtain ⟨A6, c6, w5, hrun, hown5, hg5⟩ := run_append_rows (P := Try.prog) w4 w.heap.size 106 40 i0 _ 1 24 Try.underlying106 hi hz0 hz1 hz2 rfl (by decide) _ (hs.length + 1) _ hown4 A5 (hs5.length + 1) c5 (.slice A2 (b.length + 1) c2 :: hs5) (by simp) (by
            intro u hu
            rcases List.mem_cons.1 hu with rfl | hu
            · rfl
            · exact ht5.one u hu) (own_rd ho5).1 (by unfold maxLen; omega) (by omega) hb04.size
          have htF := htN.grown hown4 (by decide) hg5
          have hb05 := hb04.trans (grown_below hown4 hg5 hb04.size)
          have E3 := Lib.hid hrun
          have hlen : (hs ++ [Value.slice A2 (b.length + 1) c2] ++ hs5).length + 1 = hs.length + 1 + (hs5.length + 1) := by simp; omega
          have HLen := Lib.hid hlen
          have HD2 := Lib.hid HD1
          clear hrun hown4 hown3 htab3 htab4 onx3 onx4 onx5 ht5 ht5' htN hVl ho5 hg5 hb04 hb4 hb03 hlen HD1 hnl hDl h5l
          go_wp2_with (at_builtin; refine wpList_append_eq rfl _ _ 106 rfl _ _ _ w5 rfl rfl E3.out ?_)
          go_roundg gi
          case rel =>
            refine ⟨i + 1, D ++ [b ++ [(i : Int)]] ++ goF fs gi (b ++ [(i : Int)]), hs ++ [Value.slice A2 (b.length + 1) c2] ++ hs5, A6, c6, by have := HI.out; show _ = _; omega, by have := HFI.out; show _ ≤ _; omega, by go_num, by rw [HLen.out], ?_, ?_, htF, hb05⟩
            · show _ = _; rw [HD2.out]; simp
            · rw [HLen.out]; simpa using hown5
          case measure => omega
        · rw [if_neg hch, List.nil_append] at HD1
          have HD2 := Lib.hid HD1
          have hq : (choE fs (b ++ [(i : Int)]) == 0) = false := by rw [beq_eq_false_iff_ne]; exact hch
          clear HD1 hnl hDl
          generalize choE fs (b ++ [(i : Int)]) = z at *
          go_wp2_with (fail)
          go_roundg gi
          case rel => exact ⟨i + 1, D, hs, A', c', by have := HI.out; show _ = _; omega, by have := HFI.out; show _ ≤ _; omega, by go_num, rfl, HD2.out, hown3, htab3, hb03⟩
          case measure => omega
  · have hz : (0 : Int) < (b.length : Int) := by omega
    have hz1 : 1 ≤ b.length := h0
    have hz0 : 0 < b.length := h0
    have hjl : b.length - 1 < b.length := by omega
    have hjl2 : (b.length : Int) - 1 < (b.length : Int) := by omega
    have hjl3 : (0 : Int) ≤ (b.length : Int) - 1 := by omega
    have hw : wrap64 ((b.length : Int) - 1) = (b.length : Int) - 1 := IntWalk.wrap64_in _ ⟨by omega, by omega⟩
    obtain ⟨b1, o1, hA, _, c0⟩ := (hr.later hb0).one (k := b.length - 1) (by omega)
    have hlw : wrap64 (b.getD (b.length - 1) 0 + 1) = (f : Int) := by rw [hlast]; exact IntWalk.wrap64_in _ ⟨by omega, by omega⟩
    clear h0 hlast hfg hn
    generalize b.getD (b.length - 1) 0 = lst at *
    subst hA
    go_enter Try.func89, Try.ntmps89
    go_wp2_with (fail)
    rw [hlw]
    clear hlw hw hjl hjl2 hjl3 hz1 hz0 c0
    go_loopg [5, 7] g (fun gk ov iv wr => ∃ (i : Nat) (D : List (List Int)) (hs : List Value) (A' : Option Addr) (c' : Nat), Hid (i + gk = fs.length) ∧ Hid (f ≤ i) ∧ iv = .int .i64 (i : Int) ∧ ov = .slice A' (hs.length + 1) c' ∧ Hid (goF fs g b = D ++ goF fs gk b) ∧ wr.ownsRow w.heap.size 40 1 (.slice A' (hs.length + 1) c') (hs.length + 1) (.slice (some ⟨b1, o1, none⟩) b.length cap :: hs) ∧ Tab wr w.heap.size hs D ∧ Below w.heap.size w wr)
    case atStart => exact ⟨f, [], [], some ⟨w.heap.size, 0, none⟩, 1, HFG.out, Nat.le_refl _, rfl, rfl, rfl, hown0, Tab.nil _ _, hb0⟩
    case round =>
      clear hown0 hb0
      obtain ⟨i, D, hs, A', c', HI, HFI, rfl, rfl, HD, hown, htab, hb⟩ := hrel
      rcases gk with _ | gi
      · obtain rfl : i = fs.length := HI.out
        have hD : D = goF fs g b := by have := HD.out; rw [HG0.out, List.append_nil] at this; exact this.symm
        rw [hD] at htab
        go_wp2_with (fail)
        go_ret
        exact ⟨A', c', hs, rfl, hown, htab, hb⟩
      · have hil : i < fs.length := by have := HI.out; omega
        have hil' : (i : Int) < (fs.length : Int) := by omega
        have hi8 : fs.length ≤ 8 := HN.out
        have hnx : nextB fs b gi = b ++ [(i : Int)] := by unfold nextB; rw [show fs.length - (gi + 1) = i by have := HI.out; omega]
        have HSk := Lib.hid (HGS.out gi)
        rw [hnx] at HSk
        have hDl : hs.length ≤ 255 := by
          have h1 := HGL.out g b
          have h2 := congrArg List.length HD.out
          rw [List.length_append] at h2
          rw [htab.1]
          have h3 : 2 ^ g ≤ 256 := Nat.le_trans (Nat.pow_le_pow_right (by decide) (show g ≤ 8 by have := HFG.out; omega)) (by decide)
          omega
        have hbx := bl_alloc (Below.refl wr.heap.size wr) (.cells #[] 3)
        obtain ⟨A1, c1, W1, hE1, o1, g1⟩ := append_ints wr.heap.size (wr.alloc (.cells #[] 3)) _ [] (some ⟨b1, o1, none⟩) b cap (own_emptyN (Nat.le_refl _) (Bx.new wr _ _)) ((hr.later hb).later hbx) (by simp) (by omega) hbx.size
        have hW1 : Below wr.heap.size wr W1 := hbx.trans (grown_below (own_emptyN (Nat.le_refl _) (Bx.new wr _ _)) g1 hbx.size)
        simp only [List.length_nil, Nat.zero_add, List.nil_append] at hE1 o1
        obtain ⟨A2, c2, W2, hE2, o2, hW12, _⟩ := append_int wr.heap.size W1 _ b (i : Int) o1 (by omega) hW1.size
        have hW2 : Below wr.heap.size wr W2 := hW1.trans hW12
        have E1 := Lib.hid hE1
        have E2 := Lib.hid hE2
        clear hE1 hE2 g1 o1 hbx hW12 hW1
        have hown2 := own_call hown hW2
        have htab2 := htab.call hW2
        have hb2 := bl_call hb hW2
        have onx := own_base o2 hb.size
        clear hown htab hW2 o2
        have hnl : (b ++ [(i : Int)]).length = b.length + 1 := by simp
        rw [hnl] at onx
        have HCx := HCh A2 (b ++ [(i : Int)]) c2 W2 (by rw [hnl]; omega) (hf.later hb2) (own_rd onx).1
        rw [hnl] at HCx
        go_wp2_with (first | (at_builtin; refine wpList_append_eq rfl _ _ 40 rfl _ _ _ W1 rfl rfl E1.out ?_) | (at_builtin; refine wpList_append_eq rfl _ _ 40 rfl _ _ _ W2 rfl rfl E2.out ?_))
        refine HCx.out.mono ?_
        rintro e w3 ⟨rfl, hb3⟩
        have hown3 := own_call hown2 hb3
        have htab3 := htab2.call hb3
        have onx3 := own_call onx hb3
        have hb03 := bl_call hb2 hb3
        clear hown2 htab2 onx hb2 hb3 HCx
        have HD1 := HD.out
        rw [HSk.out] at HD1
        have hbi : b.length ≤ i := by have := HBL.out; have := HFI.out; omega
        by_cases hch : choE fs (b ++ [(i : Int)]) = 0
        · rw [if_pos hch] at HD1
          have HI2 := IH'.out gi (by have := HFG.out; have := HI.out; have := HFI.out; omega) A2 (b ++ [(i : Int)]) c2 w3 (by have := HI.out; omega) (by rw [hnl]; have := HI.out; omega)
            (.inr ⟨by rw [hnl]; omega, by rw [hnl, Nat.add_sub_cancel]; have := HI.out; simp; omega⟩) (hf.later hb03) (own_rd onx3).1
          unfold OutCh at HI2
          rw [hnl] at HI2
          have HI3 := Lib.hid HI2
          rw [hch]
          clear hch HI2
          go_wp2_with (fail)
          refine HI3.out.mono ?_
          rintro e w4 ⟨A5, c5, hs5, rfl, ho5, ht5, hb4⟩
          have hown4 := own_call hown3 hb4
          have htab4 := htab3.call hb4
          have onx4 := own_call onx3 hb4
          have hb04 := bl_call hb03 hb4
          have ht5' := ht5.lower hb03.size
          have h5l : hs5.length ≤ 255 := by
            have h1 := HGL.out gi (b ++ [(i : Int)])
            rw [ht5.1]
            have h3 : 2 ^ gi ≤ 256 := Nat.le_trans (Nat.pow_le_pow_right (by decide) (show gi ≤ 8 by have := HI.out; omega)) (by decide)
            omega
          have onx5 : w4.ownsRow w.heap.size 3 1 (.slice A2 (b ++ [(i : Int)]).length c2) (b ++ [(i : Int)]).length (ints (b ++ [(i : Int)])) := by rw [hnl]; exact onx4
          have hVl : (Value.slice A2 (b ++ [(i : Int)]).length c2) = .slice A2 (b.length + 1) c2 := by rw [hnl]
          have htN := (htab4.snoc onx5).app ht5'
          rw [hVl] at htN
          obtain ⟨A6, c6, w5, hrun, hown5, hg5⟩ := run_append_rows (P := Try.prog) w4 w.heap.size 106 40 i0 _ 1 24 Try.underlying106 hi hz0 hz1 hz2 rfl (by decide) _ (hs.length + 1) _ hown4 A5 (hs5.length + 1) c5 (.slice A2 (b.length + 1) c2 :: hs5) (by simp) (by
            intro u hu
            rcases List.mem_cons.1 hu with rfl | hu
            · rfl
            · exact ht5.one u hu) (own_rd ho5).1 (by unfold maxLen; omega) (by omega) hb04.size
          have htF := htN.grown hown4 (by decide) hg5
          have hb05 := hb04.trans (grown_below hown4 hg5 hb04.size)
          have E3 := Lib.hid hrun
          have hlen : (hs ++ [Value.slice A2 (b.length + 1) c2] ++ hs5).length + 1 = hs.length + 1 + (hs5.length + 1) := by simp; omega
          have HLen := Lib.hid hlen
          have HD2 := Lib.hid HD1
          clear hrun hown4 hown3 htab3 htab4 onx3 onx4 onx5 ht5 ht5' htN hVl ho5 hg5 hb04 hb4 hb03 hlen HD1 hnl hDl h5l
          go_wp2_with (at_builtin; refine wpList_append_eq rfl _ _ 106 rfl _ _ _ w5 rfl rfl E3.out ?_)
          go_roundg gi
          case rel =>
            refine ⟨i + 1, D ++ [b ++ [(i : Int)]] ++ goF fs gi (b ++ [(i : Int)]), hs ++ [Value.slice A2 (b.length + 1) c2] ++ hs5, A6, c6, by have := HI.out; show _ = _; omega, by have := HFI.out; show _ ≤ _; omega, by go_num, by rw [HLen.out], ?_, ?_, htF, hb05⟩
            · show _ = _; rw [HD2.out]; simp
            · rw [HLen.out]; simpa using hown5
          case measure => omega
        · rw [if_neg hch, List.nil_append] at HD1
          have HD2 := Lib.hid HD1
          have hq : (choE fs (b ++ [(i : Int)]) == 0) = false := by rw [beq_eq_false_iff_ne]; exact hch
          clear HD1 hnl hDl
          generalize choE fs (b ++ [(i : Int)]) = z at *
          go_wp2_with (fail)
          go_roundg gi
          case rel => exact ⟨i + 1, D, hs, A', c', by have := HI.out; show _ = _; omega, by have := HFI.out; show _ ≤ _; omega, by go_num, rfl, HD2.out, hown3, htab3, hb03⟩
          case measure => omega
end Go.Proofs.Ytgbjglkiaoplmaa
