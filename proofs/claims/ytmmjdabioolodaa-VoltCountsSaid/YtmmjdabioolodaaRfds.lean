/- How many fields there are, and voltages that make none: the specification's contracts. -/
import Derived.Test.YtmmjdabioolodaaRck
namespace Go.Proofs.Ytmmjdabioolodaa
open Go.RowKit

theorem new_dec {g : List (List Int)} {k : Nat} (h : k < 7 ^ wires g) : decide ((makersL g (fV g k)).getD 0 [] = vAt (wires g) k) = newB g k := by
  rw [Bool.eq_iff_iff, decide_eq_true_eq]; exact new_first h
theorem dist_next (g : List (List Int)) (k : Nat) : ((distTo g (k + 1)).length : Int) = (distTo g k).length + (if newB g k = true then 1 else 0) := by
  rw [distTo]; split <;> simp
set_option maxRecDepth 100000 in
set_option maxHeartbeats 8000000 in
theorem rFields_c (A : Option Addr) (R : Rows) (g : List (List Int)) (cap : Nat) (w : World) (hl : Brief g) (hr : RT w A R g) :
    Calls Try.prog 30 #[.slice A g.length cap] w fun e w' => e = .returned (.tuple #[.int .i64 (fldsG g), .int .i64 (errB (okG g))]) ∧ Below w.heap.size w w' := by
  have HV := Lib.hid (rValidate_c A R g cap w hl hr)
  rcases hx : okG g with _ | _
  · have HG : fldsG g = 0 := by unfold fldsG; rw [hx]; rfl
    rw [hx] at HV
    rw [HG]
    go_enter Try.func30, Try.ntmps30
    go_wp2_with (fail)
    refine HV.out.mono ?_
    rintro e w1 ⟨rfl, hb1⟩
    rw [errB_f]
    go_wp2_with (fail)
    go_ret2
    exact ⟨rfl, hb1⟩
  · have hg := okG_iff.1 hx
    have hp3 := hg.pts
    have hw3 := hg.wrs
    rw [hx] at HV
    have HG : fldsG g = ((distL g).length : Int) := by unfold fldsG; rw [if_pos hx]
    rw [HG]
    have HDA : Hid (distTo g (7 ^ wires g) = distL g) := rfl
    have HD0 : Hid (distTo g 0 = []) := rfl
    have HDN := Lib.hid (dist_next g)
    have HDL := Lib.hid (dist_len_le g)
    have HEV := fun w1 (hb : Below w.heap.size w w1) => Lib.hid (every_c A R g cap w1 hg (hr.later hb))
    have hpow := pow_le hw3.2
    have HVL := Lib.hid (voltsL_len (wires g))
    have HVG : Hid (∀ k, k < 7 ^ wires g → (voltsL (wires g)).getD k [] = vAt (wires g) k) := fun k hk => voltsTo_get hk
    have HF := Lib.hid fun k (C : Option Addr) (c : Nat) w1 (hb : Below w.heap.size w w1) (hc : Rd w1 C (ints (vAt (wires g) k))) => Lib.hid (rfield_c A C R g (vAt (wires g) k) cap c w1 hg (vAt_ok _ _) (hr.later hb) hc)
    have HM := Lib.hid fun k (C : Option Addr) (c : Nat) w1 (hb : Below w.heap.size w w1) (hc : Rd w1 C (ints (fV g k))) => Lib.hid (meeting_c A C R g (fV g k) cap c w1 hg (hr.later hb) hc)
    have HE := Lib.hid fun k (hk : k < 7 ^ wires g) (C D : Option Addr) (c d : Nat) w1 (hc : Rd w1 C (ints ((makersL g (fV g k)).getD 0 []))) (hd : Rd w1 D (ints (vAt (wires g) k))) => (by
      have := Lib.hid (sameInts_c C D ((makersL g (fV g k)).getD 0 []) (vAt (wires g) k) c d w1 (by
        have hpos : 0 < (makersL g (fV g k)).length := by obtain ⟨t, ht⟩ := makers_pre hk (makeB_iff.2 rfl : makeB g (fV g k) (vAt (wires g) k) = true); rw [ht, List.length_append, List.length_cons]; omega
        have := makers_volts (g := g) (w := fV g k) (v := (makersL g (fV g k)).getD 0 []) (by simp [hpos])
        omega) hc hd)
      rw [new_dec hk] at this
      exact this : Hid (Calls Try.prog 23 #[.slice C ((makersL g (fV g k)).getD 0 []).length c, .slice D (vAt (wires g) k).length d] w1 fun e w' => e = .returned (.bool (newB g k)) ∧ Below w1.heap.size w1 w'))
    have HMP : Hid (∀ k, k < 7 ^ wires g → 0 < (makersL g (fV g k)).length) := fun k hk => by obtain ⟨t, ht⟩ := makers_pre hk (makeB_iff.2 rfl : makeB g (fV g k) (vAt (wires g) k) = true); rw [ht, List.length_append, List.length_cons]; omega
    have HFL : Hid (∀ k, (fV g k).length = g.length) := fun k => fieldL_len _ _
    have HFV : Hid (∀ k, fieldL g (vAt (wires g) k) = fV g k) := fun k => rfl
    generalize voltsL (wires g) = V at *
    generalize 7 ^ wires g = N at *
    clear hl hr hg hx hw3 HG
    go_enter Try.func30, Try.ntmps30
    go_wp2_with (fail)
    refine HV.out.mono ?_
    rintro e w1 ⟨rfl, hb1⟩
    rw [errB_t]
    go_wp2_with (fail)
    refine (HEV _ hb1).out.mono ?_
    rintro e w2 ⟨A2, c2, hs2, rfl, hown2, htab2, hb2⟩
    rw [HVL.out] at hown2 ⊢
    obtain ⟨S, rfl, hrt, hk2⟩ := htab2.rt hown2
    have hb02 := bl_call hb1 hb2
    clear HEV hown2 htab2
    go_wp2_with (fail)
    go_loopg [5, 7] N (fun gk nv iv wr => ∃ k : Nat, Hid (k + gk = N) ∧ iv = .int .i64 (k : Int) ∧ nv = .int .i64 ((distTo g k).length : Int) ∧ Below w2.heap.size w2 wr)
    case atStart => exact ⟨0, by simp [Hid], rfl, by rw [HD0.out]; rfl, Below.refl _ _⟩
    case round =>
      obtain ⟨k, HK, rfl, rfl, hb⟩ := hrel
      have hb0 := bl_call hb02 hb
      rcases gk with _ | gi
      · obtain rfl : k = N := HK.out
        go_wp2_with (fail)
        go_ret2
        exact ⟨by rw [HDA.out]; rfl, hb0⟩
      · have hkN : k < N := by have := HK.out; omega
        have hkN' : (k : Int) < (N : Int) := by omega
        have hrow := (hrt.row k (by rw [HVL.out]; exact hkN))
        have hkV := HVG.out k hkN
        obtain ⟨b3, o3, rfl, _, HC3⟩ := hrt.all_ (by rw [HVL.out]; omega)
        have HC4 : Hid (∀ W, Below w2.heap.size w2 W → W.cell? ⟨b3, o3 + k, none⟩ = some (.slice (S k).1 (vAt (wires g) k).length (S k).2)) := fun W h => by have := HC3 W h k (by rw [HVL.out]; exact hkN); rw [hkV] at this; exact this
        rw [hkV] at hrow
        have HFk := HF.out k (S k).1 (S k).2 wr hb0 (hrow.later hb)
        have HFVk := Lib.hid (HFV.out k)
        rw [HFVk.out] at HFk
        have HMk := Lib.hid (HM.out k)
        have HEk := Lib.hid (HE.out k hkN)
        have HMPk := Lib.hid (HMP.out k hkN)
        have HFLk := Lib.hid (HFL.out k)
        have HDk := Lib.hid (HDN.out k)
        have HDLk := Lib.hid (HDL.out k)
        have c1 := HC4.out wr hb
        clear HF HM HE HMP HFL HDN HC3 hkV HFV
        generalize vAt (wires g) k = v at *
        generalize fV g k = F at *
        generalize newB g k = z at *
        generalize hL1 : distTo g (k + 1) = L1 at *
        have HL1 := Lib.hid hL1
        clear hL1
        generalize distTo g k = L0 at *
        generalize hvl : v.length = vl at *
        rw [HFLk.out] at HMk
        go_wp2_with (fail)
        refine HFk.out.mono ?_
        rintro e w3 ⟨A3, c3, rfl, hown3, hb3⟩
        have hb03 := bl_call hb0 hb3
        have HM3 := HMk.out A3 c3 w3 hb03 (own_rd hown3).1
        clear HFk hown3 c1
        go_wp2_with (fail)
        refine HM3.out.mono ?_
        rintro e w4 ⟨A4, c4, hs4, rfl, hown4, htab4, hb4⟩
        obtain ⟨S4, rfl, hrt4, _⟩ := htab4.rt hown4
        obtain ⟨b4, o4, rfl, _, d4⟩ := hrt4.at_ (k := 0) HMPk.out
        rw [Nat.add_zero] at d4
        have hb24 := bl_call (bl_call hb hb3) hb4
        have hr0 := hrt4.row 0 HMPk.out
        have c5 := HC4.out w4 hb24
        have HE5 := HEk.out (S4 0).1 (S k).1 (S4 0).2 (S k).2 w4 hr0 (hrow.later hb24)
        have hmp := HMPk.out
        clear HM3 HMk HEk hown4 htab4 hrt4 hr0 HMPk
        generalize ((makersL g F).getD 0 []).length = n0 at *
        generalize (makersL g F).length = ml at *
        have hmp' : (0 : Int) < (ml : Int) := by omega
        have hml : ¬ ml = 0 := by omega
        have hL0 : L0.length ≤ k := HDLk.out
        cases z with
        | true =>
          have hL : (L1.length : Int) = (L0.length : Int) + 1 := by have := HDk.out; rw [if_pos (by rfl)] at this; exact this
          have HL := Lib.hid hL
          clear hL HDk
          go_wp2_with (fail)
          refine HE5.out.mono ?_
          rintro e w5 ⟨rfl, hb5⟩
          go_wp2_with (fail)
          go_roundg gi
          case rel => exact ⟨k + 1, by have := HK.out; show _ = _; omega, by go_num, by rw [HL1.out, HL.out], bl_call hb24 hb5⟩
          case measure => omega
        | false =>
          have hL : (L1.length : Int) = (L0.length : Int) := by have := HDk.out; rw [if_neg (by decide)] at this; omega
          have HL := Lib.hid hL
          clear hL HDk
          go_wp2_with (fail)
          refine HE5.out.mono ?_
          rintro e w5 ⟨rfl, hb5⟩
          go_wp2_with (fail)
          go_roundg gi
          case rel => exact ⟨k + 1, by have := HK.out; show _ = _; omega, by go_num, by rw [HL1.out, HL.out], bl_call hb24 hb5⟩
          case measure => omega
set_option maxRecDepth 100000 in
set_option maxHeartbeats 4000000 in
theorem rQuiet_c (A : Option Addr) (R : Rows) (g : List (List Int)) (cap : Nat) (w : World) (hl : Brief g) (hr : RT w A R g) :
    Calls Try.prog 32 #[.slice A g.length cap] w (OutS (quietG g) (errB (okG g)) w) := by
  have HV := Lib.hid (rValidate_c A R g cap w hl hr)
  have HG : Hid (quietG g = if okG g = true then quietL g else none) := rfl
  have HFO : Hid (∀ (o : Option (List Int)) (E : Int) (A' : Option Addr) (c' : Nat) (w' : World), quietG g = o → errB (okG g) = E → Rd w' A' (ints (found o)) → Below w.heap.size w w' → OutS (quietG g) (errB (okG g)) w (.returned (.tuple #[.slice A' (found o).length c', .bool o.isSome, .int .i64 E])) w') := fun o E A' c' w' h1 h2 h3 h4 => by rw [h1, h2]; exact ⟨A', c', rfl, h3, h4⟩
  generalize OutS (quietG g) (errB (okG g)) w = FO at HFO ⊢
  rcases hx : okG g with _ | _
  · rw [hx] at HV HFO HG
    go_enter Try.func32, Try.ntmps32
    go_wp2_with (fail)
    refine HV.out.mono ?_
    rintro e w1 ⟨rfl, hb1⟩
    rw [errB_f]
    go_wp2_with (fail)
    go_ret3
    exact HFO.out none 1 none 0 _ (by rw [HG.out]; rfl) rfl (.inl rfl) hb1
  · have hg := okG_iff.1 hx
    have hp3 := hg.pts
    have hw3 := hg.wrs
    rw [hx] at HV HFO HG
    replace HG : Hid (quietG g = quietL g) := by have h9 := HG.out; rw [if_pos rfl] at h9; exact h9
    have HQL : Hid (quietL g = (makersL g (List.replicate g.length 0)).find? fun v => decide (0 < sizeL v)) := rfl
    have HM := Lib.hid fun (C : Option Addr) (c : Nat) w1 (hb : Below w.heap.size w w1) (hc : Rd w1 C (ints (List.replicate g.length 0))) => (by
      have := Lib.hid (meeting_c A C R g (List.replicate g.length 0) cap c w1 hg (hr.later hb) hc)
      rw [List.length_replicate] at this
      exact this : Hid (Calls Try.prog 69 #[.slice A g.length cap, .slice C g.length c] w1 fun e w' => ∃ A' c hs, e = .returned (.slice A' (makersL g (List.replicate g.length 0)).length c) ∧ w'.ownsRow w1.heap.size 23 1 (.slice A' (makersL g (List.replicate g.length 0)).length c) (makersL g (List.replicate g.length 0)).length hs ∧ Tab w' w1.heap.size hs (makersL g (List.replicate g.length 0)) ∧ Below w1.heap.size w1 w'))
    have HMK := Lib.hid (make_ints g.length (by omega))
    have HML := makers_len g (List.replicate g.length 0) hw3.2
    have HOK : Hid (∀ k, k < (makersL g (List.replicate g.length 0)).length → OkV ((makersL g (List.replicate g.length 0)).getD k []) (wires g) 3) := fun k hk => (mem_makers.1 (show (makersL g (List.replicate g.length 0)).getD k [] ∈ makersL g (List.replicate g.length 0) by simp [hk])).1
    generalize makersL g (List.replicate g.length 0) = M at *
    clear hl hr hg hx
    go_enter Try.func32, Try.ntmps32
    go_wp2_with (fail)
    refine HV.out.mono ?_
    rintro e w1 ⟨rfl, hb1⟩
    rw [errB_t]
    obtain ⟨cs, hmk, hcs⟩ := HMK.out w1
    have hR0 : Row (w1.alloc (.cells cs 3)) w1.heap.size (List.replicate g.length 0) := by rw [hcs]; exact Bx.new w1 _ _
    have hbl := bl_alloc hb1 (.cells cs 3)
    have HM1 := HM.out _ g.length _ hbl hR0.rd
    clear hcs
    go_wp2_with (fail)
    refine HM1.out.mono ?_
    rintro e w2 ⟨A2, c2, hs2, rfl, hown2, htab2, hb2⟩
    have hb02 := bl_call hbl hb2
    obtain ⟨S, rfl, hrt, _⟩ := htab2.rt hown2
    clear hown2 htab2 HM1 hmk
    go_wp2_with (fail)
    go_loopg [7] M.length (fun gk iv wr => ∃ k : Nat, Hid (k + gk = M.length) ∧ iv = .int .i64 (k : Int) ∧ Hid (∀ i, i < k → ¬ 0 < sizeL (M.getD i [])) ∧ Below w2.heap.size w2 wr)
    case atStart => exact ⟨0, by simp [Hid], rfl, fun i hi => absurd hi (by omega), Below.refl _ _⟩
    case round =>
      obtain ⟨k, HK, rfl, hno, hb⟩ := hrel
      have hb0 := bl_call hb02 hb
      rcases gk with _ | gi
      · obtain rfl : k = M.length := HK.out
        have HN : Hid (quietG g = none) := by
          show _ = _
          rw [HG.out, HQL.out, List.find?_eq_none]
          intro x hx
          obtain ⟨i, hi, rfl⟩ := List.getElem_of_mem hx
          have := hno.out i hi
          rw [show M.getD i [] = M[i] by simp [hi]] at this
          simpa using this
        go_wp2_with (fail)
        go_ret3
        exact HFO.out none 0 none 0 _ HN.out rfl (.inl rfl) hb0
      · have hkN : k < M.length := by have := HK.out; omega
        have hkN' : (k : Int) < (M.length : Int) := by omega
        obtain ⟨b3, o3, rfl, _, HC3⟩ := hrt.all_ (by omega)
        have HC4 : Hid (∀ W, Below w2.heap.size w2 W → W.cell? ⟨b3, o3 + k, none⟩ = some (.slice (S k).1 (M.getD k []).length (S k).2)) := fun W h => HC3 W h k hkN
        have hok := HOK.out k hkN
        have hrow := (hrt.row k hkN).later hb
        have HZ := Lib.hid (rsize_c (S k).1 (M.getD k []) (S k).2 wr (by have := hok.len; omega) (small_get hok (by decide)) hrow)
        have HY : Hid (0 < sizeL (M.getD k []) → quietG g = some (M.getD k [])) := fun h => by
          rw [HG.out, HQL.out, List.find?_eq_some_iff_append]
          refine ⟨decide_eq_true h, M.take k, M.drop (k + 1), ?_, ?_⟩
          · have h3 : M.drop k = M[k] :: M.drop (k + 1) := List.drop_eq_getElem_cons hkN
            rw [show M.getD k [] = M[k] by simp [hkN], ← h3, List.take_append_drop]
          · intro a ha
            obtain ⟨i, hi, rfl⟩ := List.getElem_of_mem ha
            have hi' : i < k := by rw [List.length_take] at hi; omega
            have := hno.out i hi'
            rw [show M.getD i [] = M[i]'(by omega) by simp [show i < M.length by omega]] at this
            rw [List.getElem_take]
            simpa using this
        have HN : Hid (¬ 0 < sizeL (M.getD k []) → ∀ i, i < k + 1 → ¬ 0 < sizeL (M.getD i [])) := fun h i hi => by
          rcases Nat.lt_or_ge i k with h' | h'
          · exact hno.out i h'
          · rw [show i = k by omega]; exact h
        have c1 := HC4.out wr hb
        have HRW := Lib.hid hrow
        clear HC3 hok hno hrow
        generalize M.getD k [] = x at *
        generalize sizeL x = y at *
        generalize hxl : x.length = xl at *
        have HXL := Lib.hid hxl
        clear hxl
        by_cases hy : 0 < y
        · go_wp2_with (fail)
          refine HZ.out.mono ?_
          rintro e w4 ⟨rfl, hb4⟩
          have c2' := HC4.out w4 (bl_call hb hb4)
          go_wp2_with (fail)
          go_ret3
          have hfo := HFO.out (some x) 0 (S k).1 (S k).2 _ (HY.out hy) rfl (HRW.out.later hb4) (bl_call hb0 hb4)
          rw [show (found (some x)).length = xl from HXL.out] at hfo
          exact hfo
        · go_wp2_with (fail)
          refine HZ.out.mono ?_
          rintro e w4 ⟨rfl, hb4⟩
          go_wp2_with (fail)
          go_roundg gi
          case rel => exact ⟨k + 1, by have := HK.out; show _ = _; omega, by go_num, HN.out hy, bl_call hb hb4⟩
          case measure => omega
end Go.Proofs.Ytmmjdabioolodaa
