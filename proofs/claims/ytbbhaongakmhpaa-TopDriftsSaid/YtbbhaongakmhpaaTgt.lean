/- Readings with their bounds: package drift's Tight. -/
import Derived.Test.YtbbhaongakmhpaaEql
import Derived.Test.YtbbhaongakmhpaaRowR
import Derived.Test.YtbbhaongakmhpaaWid
import Derived.Deep.CutRange
import Derived.Deep.RegionLaw
namespace Go.Proofs.Ytbbhaongakmhpaa
open Go.RowKit Go.Maps

/-- A new list of threes, whether it is one, and an error. -/
def OutTB (l : List T3) (b : Bool) (x : Int) (w : World) (e : Ending) (w' : World) : Prop :=
  ∃ A' c', e = .returned (.tuple #[.slice A' l.length c', .bool b, .int .i64 x]) ∧ w'.ownsRow w.heap.size 55 3 (.slice A' l.length c') l.length (cellsT l) ∧ Below w.heap.size w w'
def tgtG (l : List T3) (r : Int) : List T3 := if agrG l r = true then tightL l r else []
def fillT (L : List T3) (n k : Nat) : List T3 := L.take k ++ List.replicate (n - k) t0
theorem fillT_len {L : List T3} {n k : Nat} (hL : L.length = n) (hk : k ≤ n) : (fillT L n k).length = n := by simp only [fillT, List.length_append, List.length_take, List.length_replicate, hL]; omega
theorem fillT_zero {L : List T3} (n : Nat) : fillT L n 0 = List.replicate n t0 := by simp [fillT]
theorem fillT_all {L : List T3} {n : Nat} (hL : L.length = n) : fillT L n n = L := by subst hL; simp [fillT]
theorem fillT_set {L : List T3} {n k : Nat} (hL : L.length = n) (hk : k < n) : (fillT L n k).set k (L.getD k t0) = fillT L n (k + 1) := by
  subst hL
  unfold fillT
  rw [show L.length - k = (L.length - (k + 1)) + 1 by omega, List.replicate_succ, List.set_append_right _ _ (by rw [List.length_take]; exact Nat.min_le_left _ _)]
  simp only [List.length_take, Nat.min_eq_left (Nat.le_of_lt hk), Nat.sub_self, List.set_cons_zero]
  have e : L.getD k t0 = L[k] := by simp [hk]
  rw [e, List.take_succ_eq_append_getElem hk, List.append_assoc]
  rfl
theorem look_at {w : World} {b n : Nat} {D : DataW Unit} {ks : List Int} {f : Int → Int × Int} {t : Int} (h : OwnM w b n D) (hh : Holds D ks f) (ht : t ∈ ks) (h0 : -5000 ≤ t) (h1 : t ≤ 5000) :
    (Instr.lookup 82 (.map (some b)) (.int .i64 t) false).run Try.prog w = .ok (.agg #[.int .i64 (f t).1, .int .i64 (f t).2]) w := by
  obtain ⟨v, ps, hrun, hv⟩ := World.ownsMap.lookup h intKey Try.underlying82 (arr_zero _) (arrE_mk 0 0) (key_lit h0 h1)
  rw [(holds_at hh ht _).1] at hv
  obtain ⟨a, b', rfl, hz⟩ := arrE_inv hv
  injection hz with hz _
  have := encD_inj hz
  rw [hrun, this]
theorem OwnM.set {w : World} {b n : Nat} {D : DataW Unit} (h : OwnM w b n D) {g i : Nat} (hne : b ≠ g) (u : Value) : OwnM (w.setCell ⟨g, i, none⟩ u) b n D := World.ownsMap.setCell h (a := ⟨g, i, none⟩) hne u
set_option maxRecDepth 100000 in
set_option maxHeartbeats 8000000 in
theorem Tight_c (A : Option Addr) (l : List T3) (cap : Nat) (r : Int) (w : World) (hlen : l.length ≤ 1000) (hr : Rd w A (cellsT l)) :
    Calls Try.prog 35 #[.slice A l.length cap, .int .i64 r] w (OutTB (tgtG l r) (agrG l r) (ratE l r) w) := by
  have HV := Lib.hid (validateBy_c A l cap r w hlen hr)
  by_cases hv : ratE l r = 0
  · obtain ⟨ho, h0, h9⟩ := ratE_ok.1 hv
    have HA := fun w' h => Lib.hid (agree_c A l cap r w' hlen (ho.fit h0 h9) (hr.later (w' := w') h))
    rw [agrG_yes hv, hv]
    rw [hv] at HV
    rcases ha : agreeB l r with _ | _
    · have hG : tgtG l r = [] := by unfold tgtG; rw [agrG_yes hv, ha]; rfl
      rw [hG]
      rw [ha] at HA
      clear hv ho h0 h9 ha hG
      go_enter Try.func35, Try.ntmps35
      go_wp2_with (first | (go_at_call 55; refine HV.out.mono ?_; rintro e w1 ⟨rfl, hb1⟩) | (go_at_call 56; refine (HA _ hb1).out.mono ?_; rintro e w2 ⟨rfl, hb2⟩))
      go_ret3
      exact ⟨none, 0, rfl, World.ownsRow_nil _ _ _ _, bl_call hb1 hb2⟩
    · have hG : tgtG l r = tightL l r := by unfold tgtG; rw [agrG_yes hv, ha]; rfl
      rw [hG]
      rw [ha] at HA
      have HB := Lib.hid (fun w' h => boundsOf_c A l cap r w' ho h0 h9 (hr.later (w' := w') h))
      have HT := Lib.hid (fun k (h : k < l.length) => (⟨ho.t0 k h, ho.t1 k h⟩ : 0 ≤ tm l k ∧ tm l k ≤ 1000))
      have HMK := Lib.hid (made_rdgs l.length hlen)
      clear hv ho h0 h9 ha hG
      go_enter Try.func35, Try.ntmps35
      go_wp2_with (fail)
      refine HV.out.mono ?_
      rintro e w1 ⟨rfl, hb1⟩
      go_wp2_with (fail)
      refine (HA _ hb1).out.mono ?_
      rintro e w2 ⟨rfl, hb2⟩
      have hb12 := bl_call hb1 hb2
      clear hb1 hb2 HA HV
      obtain ⟨w3, hm3, ho3, hg3⟩ := HMK.out w2.drew
      have hb3 : Below w2.heap.size w2 w3 := (Below.refl _ _).drew.grown hg3 (Nat.le_refl _) (fun k e => by cases e)
      have HB3 := Lib.hid (HB.out w3 (bl_call hb12 hb3))
      have HB2 := Lib.hid (HB.out w2.drew hb12.drew)
      have HM3 := Lib.hid hm3
      clear hm3
      go_wp2_with (fail)
      go_cut [8, 9] from 23 to 28 (fun s8 s9 wc => ∃ (g b : Nat) (D : DataW Unit), s8 = .slice (some ⟨g, 0, none⟩) l.length l.length ∧ s9 = .map (some b) ∧ b ≠ g ∧ wc.ownsRow w.heap.size 55 3 (.slice (some ⟨g, 0, none⟩) l.length l.length) l.length (cellsT (List.replicate l.length t0)) ∧ OwnM wc b l.length D ∧ Hid (Holds D (timesL l) (bndF l r)) ∧ Below w.heap.size w wc)
      case first =>
        have hmk1 := HM3.out
        go_region_law (first
          | (go_simp; refine HB3.out.mono ?_; rintro e w4 ⟨b4, D4, rfl, ho4, HH4, hbb4, hb4⟩; try go_simp)
          | (go_simp; refine HB2.out.mono ?_; rintro e w4 ⟨b4, D4, rfl, ho4, HH4, hbb4, hb4⟩; obtain ⟨w5, hm5, ho5, hg5⟩ := HMK.out w4; try go_simp))
        · go_wp2_with (fail)
          go_meet
          exact ⟨_, b4, D4, rfl, rfl, by have : w2.heap.size < w3.heap.size := (World.ownsRow.lt ho3 w2.heap.size rfl).2; omega, own_base (own_call ho3 hb4) hb12.size, ho4, HH4, bl_call (bl_call hb12 hb3) hb4⟩
        · go_wp2_with (fail)
          go_meet
          have hb24 : Below w2.heap.size w2 w4 := (Below.refl w2.heap.size w2).drew.trans hb4
          exact ⟨_, b4, D4, rfl, rfl, by have := World.ownsMap.lt ho4; omega, own_base ho5 (Nat.le_trans hb12.size hb24.size), World.ownsMap.kept ho4 hg5 (by simp), HH4, (bl_call hb12 hb24).grown hg5 (bl_call hb12 hb24).size (fun k e => by cases e)⟩
      obtain ⟨g, b, D, rfl, rfl, hne, hown, hM, HH, hb⟩ := hcut
      clear hb12 ho3 hg3 hb3 HB3 HB2 HM3 HMK HB
      have hlt0 : (tightL l r).length = l.length := tightL_length l r
      have HLT := Lib.hid hlt0
      clear hlt0
      have HTG := Lib.hid (fun k (h : k < l.length) => @tight_get l r k h)
      generalize htl : tightL l r = TL at *
      have HF0 : Hid (fillT TL l.length 0 = List.replicate l.length t0) := fillT_zero _
      have HFA : Hid (fillT TL l.length l.length = TL) := fillT_all HLT.out
      rw [← HF0.out] at hown
      clear htl
      go_wp2_with (fail)
      go_loopg [31] l.length (fun gk iv wr => ∃ k : Nat, Hid (k + gk = l.length) ∧ iv = .int .i64 (k : Int) ∧ wr.ownsRow w.heap.size 55 3 (.slice (some ⟨g, 0, none⟩) l.length l.length) l.length (cellsT (fillT TL l.length k)) ∧ OwnM wr b l.length D ∧ Below w.heap.size w wr)
      case atStart => exact ⟨0, by simp [Hid], rfl, hown, hM, hb⟩
      case round =>
        obtain ⟨k, HK, rfl, hown2, hM2, hb2⟩ := hrel
        clear hown hM hb
        rcases gk with _ | gi
        · obtain rfl : k = l.length := HK.out
          rw [HFA.out] at hown2
          go_wp2_with (fail)
          go_ret3
          exact ⟨_, _, by rw [HLT.out]; rfl, by rw [HLT.out]; exact hown2, hb2⟩
        · have hlt : k < l.length := by have := HK.out; omega
          have hlt' : (k : Int) < (l.length : Int) := by omega
          obtain ⟨q0, q1⟩ := HT.out k hlt
          obtain ⟨b', o, rfl, hbl, c0_, c1_, c2_⟩ := (hr.later hb2).tri hlt
          have c0 : wr.cell? ⟨b', o + k * 3, none⟩ = some (.int .i64 (tm l k)) := c0_
          have c1 : wr.cell? ⟨b', o + k * 3 + 1, none⟩ = some (.int .i64 (lw l k)) := c1_
          have c2 : wr.cell? ⟨b', o + k * 3 + 2, none⟩ = some (.int .i64 (hg l k)) := c2_
          clear c0_ c1_ c2_
          have HS := Lib.hid (fillT_set (k := k) HLT.out hlt)
          rw [HTG.out k hlt] at HS
          have hFL : (fillT TL l.length k).length = l.length := fillT_len HLT.out (by omega)
          have hmem : tm l k ∈ timesL l := times_mem.2 ⟨k, hlt, rfl⟩
          have hMA := World.ownsMap.alloc hM2 (.cells #[.int .i64 (tm l k), .int .i64 (lw l k), .int .i64 (hg l k)] 55)
          have hlook := look_at hMA HH.out hmem (by omega) (by omega)
          have hFk : k < (fillT TL l.length k).length := by omega
          have HFK := Lib.hid hFk
          unfold bndF at hlook
          simp only [] at hlook
          generalize lowB l r (tm l k) = lo at *
          generalize highB l r (tm l k) = hi at *
          generalize tm l k = T at *
          generalize lw l k = L at *
          generalize hg l k = H at *
          have hxA : Bx ((wr.alloc (.cells #[.int .i64 T, .int .i64 L, .int .i64 H] 55)).alloc (.cells #[.int .i64 lo, .int .i64 hi] 65)) wr.heap.size 55 #[.int .i64 T, .int .i64 L, .int .i64 H] := (Bx.new _ _ _).alloc _
          have hyA : Bx ((wr.alloc (.cells #[.int .i64 T, .int .i64 L, .int .i64 H] 55)).alloc (.cells #[.int .i64 lo, .int .i64 hi] 65)) (wr.heap.size + 1) 65 #[.int .i64 lo, .int .i64 hi] := Bx.newAt (by rw [World.size_alloc])
          have hoA := (hown2.alloc (.cells #[.int .i64 T, .int .i64 L, .int .i64 H] 55)).alloc (.cells #[.int .i64 lo, .int .i64 hi] 65)
          have hMB := World.ownsMap.alloc hMA (.cells #[.int .i64 lo, .int .i64 hi] 65)
          have hbA := bl_alloc (bl_alloc hb2 (.cells #[.int .i64 T, .int .i64 L, .int .i64 H] 55)) (.cells #[.int .i64 lo, .int .i64 hi] 65)
          obtain ⟨g', hg', hgb, hgl, ⟨m0, m1, m2⟩, f0, f1, f2⟩ := own_at3 hoA hFL hlt
          injection hg' with hg'
          injection hg' with hg'
          subst hg'
          obtain ⟨z0, z1, z2, _, _, _⟩ := hxA.three
          obtain ⟨y0, y1, _, _⟩ := hyA.two
          have hoF := own_put3 hoA HFK.out (T, lo, hi)
          rw [HS.out] at hoF
          have hMF := ((OwnM.set hMB hne (.int .i64 T) (i := k * 3)).set hne (.int .i64 lo) (i := k * 3 + 1)).set hne (.int .i64 hi) (i := k * 3 + 2)
          have hbF := bl_set (bl_set (bl_set hbA hgb (i := k * 3) (.int .i64 T)) hgb (i := k * 3 + 1) (.int .i64 lo)) hgb (i := k * 3 + 2) (.int .i64 hi)
          clear hFL hmem hFk hxA hyA hoA hMB hbA hMA hown2 hM2 hb2
          go_wp2_with (fail)
          go_roundg gi
          case rel => exact ⟨k + 1, by have := HK.out; show _ = _; omega, by go_num, hoF, hMF, hbF⟩
          case measure => omega
  · have hv' : (ratE l r != 0) = true := by simpa using hv
    have hG : tgtG l r = [] := by unfold tgtG; rw [agrG_no hv]; rfl
    rw [agrG_no hv, hG]
    clear hG
    generalize ratE l r = v at *
    go_enter Try.func35, Try.ntmps35
    go_wp2_with (go_at_call 55; refine HV.out.mono ?_; rintro e w1 ⟨rfl, hb1⟩)
    go_ret3
    exact ⟨none, 0, rfl, World.ownsRow_nil _ _ _ _, hb1⟩
end Go.Proofs.Ytbbhaongakmhpaa
