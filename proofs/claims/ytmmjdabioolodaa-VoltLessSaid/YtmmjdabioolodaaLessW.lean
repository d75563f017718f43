/- VoltLess, walked. -/
import Derived.Test.YtmmjdabioolodaaKnw
import Derived.Test.YtmmjdabioolodaaSam
import Derived.Test.YtmmjdabioolodaaFds
import Derived.Test.YtmmjdabioolodaaRwo
namespace Go.Proofs.Ytmmjdabioolodaa
open Go.RowKit

theorem less_brief {g : List (List Int)} {x : Int} (h : Brief g) : Brief (lesG g x) := by
  unfold lesG
  split
  · refine ⟨by rw [lessL_len]; exact h.1, fun k hk => ?_⟩
    rw [lessL_len] at hk
    rw [lessL_get hk]
    exact Nat.le_trans (List.length_eraseIdx_le _ _) (h.2 k hk)
  · exact ⟨by simp, fun k hk => by simp at hk⟩
theorem less_fields {g : List (List Int)} {x : Int} (h : lesE g x = 0) : okG (lesG g x) = true ∧ fldsG (lesG g x) ≤ fldsG g ∧ lesG g x ≠ [] ∧ okG g = true ∧ ∀ k, k < (lesG g x).length → 0 < ((lesG g x).getD k []).length := by
  obtain ⟨h1, h2, h3, h4, h5⟩ := les_ok h
  have hg := okG_iff.1 h1
  have hp := hg.pts
  have hw := hg.wrs
  have hk : x.toNat < wires g := by omega
  have hok := less_ok hg hk (by omega)
  have hok' := okG_iff.2 hok
  rw [h5]
  refine ⟨hok', ?_, fun e => by have := congrArg List.length e; rw [lessL_len] at this; simp at this; rw [this] at hp; simp at hp, h1, fun k hk' => ?_⟩
  · unfold fldsG
    rw [if_pos hok', if_pos h1]
    have := dist_less_le hg hk
    omega
  · rw [(hok.row k hk').len]; have := hok.wrs; omega
/-- Rows of one's own that can be written: each has a first number. -/
def Firsts (w : World) (base n : Nat) (R : Rows) : Prop := ∀ k, k < n → ∃ g cur, (R k).1 = some ⟨g, 0, none⟩ ∧ base ≤ g ∧ w.heap[g]? = some (.cells cur 3 (0, 0)) ∧ 0 < cur.size
theorem firsts_own {w : World} {base : Nat} {R : Rows} {ls : List (List Int)} (h : ∀ k, k < ls.length → w.ownsRow base 3 1 (.slice (R k).1 (ls.getD k []).length (R k).2) (ls.getD k []).length (ints (ls.getD k []))) (hp : ∀ k, k < ls.length → 0 < (ls.getD k []).length) : Firsts w base ls.length R := fun k hk => by
  have hl := hp k hk
  rcases (h k hk).2 with ⟨hv, hn⟩ | ⟨g, cap, cur, hv, hb, hg, hle, _, hs, _⟩
  · injection hv with _ h2; omega
  · injection hv with h1 _ _
    exact ⟨g, cur, h1, hb, hg, by omega⟩
theorem Firsts.call {w w' : World} {base n : Nat} {R : Rows} (h : Firsts w base n R) (hb : Below w.heap.size w w') : Firsts w' base n R := fun k hk => by
  obtain ⟨g, cur, h1, h2, h3, h4⟩ := h k hk
  exact ⟨g, cur, h1, h2, (hb.block g (Array.getElem?_eq_some_iff.1 h3).1).trans h3, h4⟩
theorem Firsts.set {w : World} {base n : Nat} {R : Rows} (h : Firsts w base n R) {k : Nat} (hk : k < n) (v : Value) : ∃ g cur, (R k).1 = some ⟨g, 0, none⟩ ∧ base ≤ g ∧ Bx w g 3 cur ∧ 0 < cur.size ∧ Firsts (w.setCell ⟨g, 0, none⟩ v) base n R := by
  obtain ⟨g, cur, h1, h2, h3, h4⟩ := h k hk
  have hx : Bx w g 3 cur := h3
  refine ⟨g, cur, h1, h2, hx, h4, fun j hj => ?_⟩
  obtain ⟨g', cur', k1, k2, k3, k4⟩ := h j hj
  by_cases he : g' = g
  · subst he
    rw [h3] at k3
    injection k3 with k3
    injection k3 with k3
    subst k3
    exact ⟨g', _, k1, k2, hx.set 0 v, by simp [h4]⟩
  · exact ⟨g', cur', k1, k2, (show Bx w g' 3 cur' from k3).far he v, k4⟩
theorem own_other {w : World} {base e size n g i : Nat} {T : TypeId} {v u : Value} {xs : List Value} {cs : Array Value} (h : w.ownsRow base e size v n xs) (hx : Bx w g T cs) (hne : e ≠ T) : (w.setCell ⟨g, i, none⟩ u).ownsRow base e size v n xs := by
  refine own_mod (S := fun q => q = g) h (Mod.setCell (S := fun q => q = g) (g := g) (i := i) (Mod.refl _ w) (.inr rfl) u) (fun q hq hqg => ?_)
  rcases h.2 with ⟨hv, _⟩ | ⟨g', cap, cur, hv, _, hg', _⟩
  · rw [hv] at hq; cases hq
  · rw [hv] at hq
    have h4 : g' = g := by injection hq with hq; exact hq.trans hqg
    have h3 : w.heap[g]? = some (.cells cs T (0, 0)) := hx
    rw [← h4, hg'] at h3
    injection h3 with h3
    injection h3 with _ h3
    exact hne h3
set_option maxRecDepth 100000 in
set_option maxHeartbeats 4000000 in
theorem voltLess_walk (A : Option Addr) (R : Rows) (g : List (List Int)) (cap : Nat) (x : Int) (w : World) (hcapg : g.length ≤ cap) (hcmg : cap ≤ maxLen) (hcp : ∀ k, k < g.length → (g.getD k []).length ≤ (R k).2 ∧ (R k).2 ≤ maxLen) (hg : RT w A R g) (_hx : (Lit.int .i64 x).wf = true) :
    Calls Try.prog 12 #[.slice A g.length cap, .int .i64 x] w fun e w' => e = .returned (.bool true) ∧ Below w.heap.size w w' := by
  have HK := fun w => Lib.hid (known_c w)
  have HLg := fun w h => Lib.hid (Long_c A R g cap w (by unfold maxLen at hcmg; omega) h)
  rcases hxg : longB g with _ | _
  rotate_left
  · rw [hxg] at HLg
    go_enter Try.func12, Try.ntmps12
    have hb0 := Below.refl w.heap.size w
    go_wp2_with (fail)
    refine (HLg _ (hg.later hb0)).out.mono ?_
    rintro e w1 ⟨rfl, hbx⟩
    replace hb0 := bl_call hb0 hbx
    clear hbx
    go_wp2_with (fail)
    refine (HK _).out.mono ?_
    rintro e wk ⟨rfl, hbk⟩
    go_wp2_with (fail)
    go_ret
    exact ⟨rfl, bl_call hb0 hbk⟩
  rw [hxg] at HLg
  obtain ⟨hbrg, hlg, hlrg⟩ := brief_of hxg
  have H1 := fun w h => Lib.hid (CopyTable_c A R g cap w hbrg h)
  have H2 := fun A' R' c' w h => Lib.hid (Without_c A' R' g c' x w hbrg h)
  have H3 := fun w h => Lib.hid (rWithout_c A R g cap x w hbrg hcp h)
  have hbl := less_brief (x := x) hbrg
  have H4 := fun A' B' c1 c2 R1 R2 w h h' => Lib.hid (sameTables_c A' B' R1 R2 (lesG g x) (lesG g x) c1 c2 w (by have := hbl.1; omega) (fun k hk => by have := hbl.2 k hk; omega) h h')
  rw [decide_eq_true rfl] at H4
  unfold OutT at H1
  unfold OutTab at H2 H3
  by_cases hE : lesE g x = 0
  · obtain ⟨hok, hle, hne, hgk, hpos⟩ := less_fields hE
    have H5 := fun A' R' c' w h => Lib.hid (Fields_c A' R' (lesG g x) c' w hbl h)
    have H6 := fun w h => Lib.hid (Fields_c A R g cap w hbrg h)
    have H7 := fun A' B' c1 c2 R1 R2 w h h' => Lib.hid (sameTables_c A' B' R1 R2 g g c1 c2 w (by have := hbrg.1; omega) (fun k hk => by have := hbrg.2 k hk; omega) h h')
    rw [decide_eq_true rfl] at H7
    rw [hok, errB_t] at H5
    rw [hgk, errB_t] at H6
    rw [hE] at H2 H3
    have HPOS := Lib.hid hpos
    have hgl1 := hbl.1
    generalize fldsG (lesG g x) = fa at *
    generalize fldsG g = fb at *
    clear hE hok hne hgk hpos hbrg hlg hlrg hxg hcapg hcmg hcp
    have HBL := Lib.hid hbl
    clear hbl
    generalize lesG g x = M at *
    go_enter Try.func12, Try.ntmps12
    have hb0 := Below.refl w.heap.size w
    go_wp2_with (fail)
    refine (HLg _ (hg.later hb0)).out.mono ?_
    rintro e w1 ⟨rfl, hbx⟩
    replace hb0 := bl_call hb0 hbx
    clear hbx
    go_wp2_with (fail)
    refine (H1 _ (hg.later hb0)).out.mono ?_
    rintro e wo ⟨A1, c1, R1, rfl, hr1, hbx⟩
    replace hb0 := bl_call hb0 hbx
    clear hbx
    have hb1 := Below.refl wo.heap.size wo
    go_wp2_with (fail)
    refine (H2 _ _ _ _ (hr1.later hb1)).out.mono ?_
    rintro e w1 ⟨A2, c2, R2, rfl, ht2, hr2, ho2, hbx⟩
    have hf2 := firsts_own ho2 HPOS.out
    clear ho2
    replace hb1 := bl_call hb1 hbx
    clear hbx
    go_wp2_with (fail)
    refine (H3 _ (hg.later (bl_call hb0 hb1))).out.mono ?_
    rintro e w1 ⟨A3, c3, R3, rfl, _, hr3, _, hbx⟩
    replace hf2 := hf2.call hbx
    replace ht2 := own_call ht2 hbx
    replace hb1 := bl_call hb1 hbx
    replace hr2 := hr2.later hbx
    clear hbx
    go_wp2_with (fail)
    refine (H4 _ _ _ _ _ _ _ hr2 hr3).out.mono ?_
    rintro e w1 ⟨rfl, hbx⟩
    replace hf2 := hf2.call hbx
    replace ht2 := own_call ht2 hbx
    replace hb1 := bl_call hb1 hbx
    replace hr2 := hr2.later hbx
    clear hbx hr3
    go_wp2_with (fail)
    refine (H5 _ _ _ _ hr2).out.mono ?_
    rintro e w1 ⟨rfl, hbx⟩
    replace hf2 := hf2.call hbx
    replace ht2 := own_call ht2 hbx
    replace hb1 := bl_call hb1 hbx
    replace hr2 := hr2.later hbx
    clear hbx
    go_wp2_with (fail)
    refine (H6 _ (hg.later (bl_call hb0 hb1))).out.mono ?_
    rintro e w1 ⟨rfl, hbx⟩
    replace hf2 := hf2.call hbx
    replace ht2 := own_call ht2 hbx
    replace hb1 := bl_call hb1 hbx
    replace hr2 := hr2.later hbx
    clear hbx
    clear H1 H2 H3 H4 H5 H6 hr2
    go_wp2_with (fail)
    go_loopg [14] M.length (fun gk iv wr => ∃ k : Nat, Hid (k + gk = M.length) ∧ iv = .int .i64 (k : Int) ∧ Firsts wr wo.heap.size M.length R2 ∧ wr.ownsRow wo.heap.size 23 1 (.slice A2 M.length c2) M.length (rowsV R2 M) ∧ Below wo.heap.size wo wr)
    case atStart => exact ⟨0, by simp [Hid], rfl, hf2, own_base ht2 (Nat.le_refl _), hb1⟩
    case round =>
      clear hf2 ht2 hb1
      obtain ⟨k, HK1, rfl, hf2, ht2, hb1⟩ := hrel
      have hbw := bl_call hb0 hb1
      rcases gk with _ | gi
      · obtain rfl : k = M.length := HK1.out
        go_wp2_with (fail)
        refine (H7 _ _ _ _ _ _ _ (hr1.later hb1) (hg.later hbw)).out.mono ?_
        rintro e w1 ⟨rfl, hbx⟩
        go_wp2_with (fail)
        refine (HK _).out.mono ?_
        rintro e wk ⟨rfl, hbk⟩
        go_wp2_with (fail)
        go_ret
        exact ⟨rfl, bl_call (bl_call hbw hbx) hbk⟩
      · have hkN : k < M.length := by have := HK1.out; omega
        have hkN' : (k : Int) < (M.length : Int) := by omega
        have hpk := HPOS.out k hkN
        obtain ⟨g1, cur, e1, e2, hx, hcs, hf3⟩ := hf2.set hkN (.int .i64 99)
        have ht3 := own_other (u := .int .i64 99) (i := 0) ht2 hx (by decide)
        have hb3 := bl_set hb1 (g := g1) (i := 0) e2 (.int .i64 99)
        obtain ⟨b2, o2, rfl, _, hc⟩ := (own_rd ht2).1.at_ (k := k) (by simpa using hkN)
        have hck := hc k _ (rowsV_get hkN)
        rw [e1] at hck
        have hcu : ∃ u, wr.cell? ⟨g1, 0, none⟩ = some u := ⟨cur[0], by rw [hx.cell 0]; simp [hcs]⟩
        obtain ⟨u0, d0⟩ := hcu
        have f0 := hx.free 0
        have hpk' : (0 : Int) < ((M.getD k []).length : Int) := by omega
        clear hc hx hcs
        generalize (M.getD k []).length = lk at *
        have hlk : ¬ lk = 0 := by omega
        go_wp2_with (fail)
        go_roundg gi
        case rel => exact ⟨k + 1, by have := HK1.out; show _ = _; omega, by go_num, hf3, ht3, hb3⟩
        case measure => omega
  · have hE' : ¬ lesE g x = 0 := hE
    have hM := les_no hE
    have hEb : (lesE g x == 0) = false := by simpa using hE
    rw [hM] at H2 H3 H4
    generalize lesE g x = E at *
    clear hM hbl hbrg hlg hlrg hxg hcapg hcmg hcp hE
    go_enter Try.func12, Try.ntmps12
    have hb0 := Below.refl w.heap.size w
    go_wp2_with (fail)
    refine (HLg _ (hg.later hb0)).out.mono ?_
    rintro e w1 ⟨rfl, hbx⟩
    replace hb0 := bl_call hb0 hbx
    clear hbx
    go_wp2_with (fail)
    refine (H1 _ (hg.later hb0)).out.mono ?_
    rintro e wo ⟨A1, c1, R1, rfl, hr1, hbx⟩
    replace hb0 := bl_call hb0 hbx
    clear hbx
    have hb1 := Below.refl wo.heap.size wo
    go_wp2_with (fail)
    refine (H2 _ _ _ _ (hr1.later hb1)).out.mono ?_
    rintro e w1 ⟨A2, c2, R2, rfl, ht2, hr2, ho2, hbx⟩
    clear ho2 ht2
    replace hb1 := bl_call hb1 hbx
    clear hbx
    go_wp2_with (fail)
    refine (H3 _ (hg.later (bl_call hb0 hb1))).out.mono ?_
    rintro e w1 ⟨A3, c3, R3, rfl, _, hr3, _, hbx⟩
    replace hb1 := bl_call hb1 hbx
    replace hr2 := hr2.later hbx
    clear hbx
    go_wp2_with (fail)
    refine (H4 _ _ _ _ _ _ _ hr2 hr3).out.mono ?_
    rintro e w1 ⟨rfl, hbx⟩
    replace hb1 := bl_call hb1 hbx
    replace hr2 := hr2.later hbx
    clear hbx hr3
    go_wp2_with (fail)
    refine (HK _).out.mono ?_
    rintro e wk ⟨rfl, hbk⟩
    go_wp2_with (fail)
    go_ret
    exact ⟨rfl, bl_call (bl_call hb0 hb1) hbk⟩
end Go.Proofs.Ytmmjdabioolodaa
