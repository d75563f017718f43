/- The voltages that make a wish: the specification's contract. -/
import Derived.Test.YtmmjdabioolodaaRfl
namespace Go.Proofs.Ytmmjdabioolodaa
open Go.RowKit

theorem make_decide (g : List (List Int)) (l v : List Int) : decide (fieldL g v = l) = makeB g l v := by unfold makeB; rw [Bool.eq_iff_iff]; simp
set_option maxRecDepth 100000 in
set_option maxHeartbeats 4000000 in
theorem meeting_c (A B : Option Addr) (R : Rows) (g : List (List Int)) (l : List Int) (cap cap' : Nat) (w : World) (hg : OkG g) (hr : RT w A R g) (hs : Rd w B (ints l)) :
    Calls Try.prog 69 #[.slice A g.length cap, .slice B l.length cap'] w fun e w' => ∃ A' c hs, e = .returned (.slice A' (makersL g l).length c) ∧ w'.ownsRow w.heap.size 23 1 (.slice A' (makersL g l).length c) (makersL g l).length hs ∧ Tab w' w.heap.size hs (makersL g l) ∧ Below w.heap.size w w' := by
  have HEV := Lib.hid (every_c A R g cap w hg hr)
  have hw3 := hg.wrs
  have HF := fun (v : List Int) (C : Option Addr) (c : Nat) (w1 : World) (hv : OkV v (wires g) 3) (hb : Below w.heap.size w w1) (hc : Rd w1 C (ints v)) => Lib.hid (rfield_c A C R g v cap c w1 hg hv (hr.later hb) hc)
  have HE := fun (v : List Int) (D : Option Addr) (d : Nat) (w1 : World) (hd : Rd w1 D (ints (fieldL g v))) (hb : Below w.heap.size w w1) => Lib.hid (sameInts_c D B (fieldL g v) l d cap' w1 (by rw [fieldL_len]; have := hg.pts; omega) hd (hs.later hb))
  have HEQ := Lib.hid (make_decide g l)
  have HLE := Lib.hid (fieldL_len g)
  have HVL := Lib.hid (voltsL_len (wires g))
  have HMY := Lib.hid (fun k => @makersTo_yes g l k)
  have HMN := Lib.hid (fun k => @makersTo_no g l k)
  have HMA := Lib.hid (makersTo_all g l)
  have HML := Lib.hid (makersTo_len g l)
  have HM0 : Hid (makersTo g l 0 = []) := rfl
  have HVG : Hid (∀ k, k < 7 ^ wires g → (voltsL (wires g)).getD k [] = vAt (wires g) k) := fun k hk => voltsTo_get hk
  have hpow := pow_le hw3.2
  have HOK := Lib.hid (vAt_ok (wires g))
  generalize voltsL (wires g) = V at *
  generalize 7 ^ wires g = N at *
  generalize makersL g l = M at *
  clear hg hr hs hw3
  go_enter Try.func69, Try.ntmps69
  go_wp2_with (fail)
  refine HEV.out.mono ?_
  rintro e w1 ⟨A1, c1, hs1, rfl, hown1, htab1, hb1⟩
  rw [HVL.out] at hown1 ⊢
  clear HEV
  have hws := hb1.size
  have hro := (own_rd hown1).1
  have hlen : hs1.length = N := by have := hown1.1; omega
  go_wp2_with (fail)
  go_loopg [5, 7] N (fun gk ov iv wr => ∃ (k : Nat) (A' : Option Addr) (c' : Nat) (hs' : List Value), Hid (k + gk = N) ∧ iv = .int .i64 (k : Int) ∧ ov = .slice A' (makersTo g l k).length c' ∧ wr.ownsRow w1.heap.size 23 1 (.slice A' (makersTo g l k).length c') (makersTo g l k).length hs' ∧ Tab wr w.heap.size hs' (makersTo g l k) ∧ Below w1.heap.size w1 wr)
  case atStart => exact ⟨0, none, 0, [], by simp [Hid], rfl, by rw [HM0.out]; rfl, by rw [HM0.out]; exact World.ownsRow_nil _ _ _ _, by rw [HM0.out]; exact Tab.nil _ _, Below.refl _ _⟩
  case round =>
    obtain ⟨k, A', c', hs', HK, rfl, rfl, hown, htab, hb⟩ := hrel
    rcases gk with _ | gi
    · obtain rfl : k = N := HK.out
      rw [HMA.out] at hown htab ⊢
      have hb2 := bl_call hb1 hb
      go_wp2_with (fail)
      go_ret
      exact ⟨A', c', hs', rfl, own_base hown hws, htab, hb2⟩
    · have hkN : k < N := by have := HK.out; omega
      have hkN' : (k : Int) < (N : Int) := by omega
      obtain ⟨Ak, ck, hk1, hk2⟩ := htab1.2 k (by rw [HVL.out]; exact hkN)
      rw [HVG.out k hkN] at hk1 hk2
      have hokv := HOK.out k
      have HY := Lib.hid (HMY.out k)
      have HN := Lib.hid (HMN.out k)
      have HLK := Lib.hid (HML.out k)
      have HFv := HF (vAt (wires g) k)
      have HEv := HE (vAt (wires g) k)
      have HLv := Lib.hid (HLE.out (vAt (wires g) k))
      simp only [HEQ.out] at HEv
      generalize vAt (wires g) k = v at *
      generalize fieldL g v = F at *
      generalize makeB g l v = bb at *
      have hrk := (own_rd hk2).1
      obtain ⟨b, o, rfl, hbl, hc⟩ := hro.at_ (k := k) (by rw [hlen]; exact hkN)
      have hck0 := hc k _ hk1
      have hck := (hb.cell (p := ⟨b, o + k, none⟩) hbl).trans hck0
      have hbw := bl_call hb1 hb
      have HF1 := HFv Ak ck wr hokv hbw (hrk.later hb)
      have hsw := hb.size
      clear hk1 hc HFv hokv
      go_wp2_with (fail)
      refine HF1.out.mono ?_
      rintro e w2 ⟨A2, c2, rfl, hown2, hb2⟩
      have hbw2 := bl_call hbw hb2
      have hrd2 := (own_rd hown2).1
      have HE1 := HEv A2 c2 w2 hrd2 hbw2
      rw [HLv.out] at HE1
      clear HF1 HEv
      go_wp2_with (fail)
      refine HE1.out.mono ?_
      rintro e w3 ⟨rfl, hb3⟩
      have hb13 : Below w1.heap.size w1 w3 := bl_call (bl_call hb hb2) hb3
      have hown3 := own_call (own_call hown hb2) hb3
      have htab3 := (htab.call hb2).call hb3
      have hrow3 := own_call hk2 hb13
      cases bb with
      | false =>
        rw [show makersTo g l k = makersTo g l (k + 1) from (HN.out rfl).symm] at hown3 htab3 ⊢
        go_wp2_with (fail)
        go_roundg gi
        case rel => exact ⟨k + 1, A', c', hs', by have := HK.out; show _ = _; omega, by go_num, rfl, hown3, htab3, hb13⟩
        case measure => omega
      | true =>
        have hck3 := (hb13.cell (p := ⟨b, o + k, none⟩) hbl).trans hck0
        have hlm : (makersTo g l k).length ≤ 343 := by have := HLK.out; omega
        obtain ⟨A3, c3, w4, hrun, hown4, hb4, hg4⟩ := append_slice w1.heap.size w3 _ (makersTo g l k).length hs' (.slice Ak v.length ck) rfl hown3 (by omega) hb13.size
        have E1 := Lib.hid hrun
        have HYY := Lib.hid (HY.out rfl)
        have HYL : Hid ((makersTo g l (k + 1)).length = (makersTo g l k).length + 1) := by show _ = _; rw [HYY.out]; simp
        have htab4 : Hid (Tab w4 w.heap.size (hs' ++ [.slice Ak v.length ck]) (makersTo g l (k + 1))) := by
          show Tab _ _ _ _
          rw [HYY.out]
          exact (Tab.call (Tab.snoc htab3 hrow3) (bl_alloc (Below.refl _ _) _)).grown (hown3.alloc _) (by decide) hg4
        have hown5 : Hid (w4.ownsRow w1.heap.size 23 1 (.slice A3 ((makersTo g l k).length + 1) c3) (makersTo g l (k + 1)).length (hs' ++ [.slice Ak v.length ck])) := by
          show World.ownsRow _ _ _ _ _ _ _
          rw [HYL.out]; exact hown4
        have hb14 := hb13.trans hb4
        clear hrun hown4 hg4 htab3 hown3
        generalize hm1 : (makersTo g l k).length = m1 at *
        go_wp2_with (at_builtin; refine wpList_append_eq rfl _ _ 22 rfl _ _ _ w4 rfl rfl E1.out ?_)
        go_roundg gi
        case rel => exact ⟨k + 1, A3, c3, _, by have := HK.out; show _ = _; omega, by go_num, by rw [HYL.out], by rw [HYL.out] at hown5 ⊢; exact hown5.out, htab4.out, hb14⟩
        case measure => omega
end Go.Proofs.Ytmmjdabioolodaa
