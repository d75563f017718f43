/- Sums of voltages: package volt's contract and the specification's. -/
import Derived.Test.YtmmjdabioolodaaRmp
namespace Go.Proofs.Ytmmjdabioolodaa
open Go.RowKit

def sPart (a b : List Int) (k : Nat) : List Int := (List.range a.length).map fun i => if i < k then a.getD i 0 + b.getD i 0 else 0
@[simp] theorem sPart_len (a b : List Int) (k : Nat) : (sPart a b k).length = a.length := by simp [sPart]
theorem sPart_zero (a b : List Int) : sPart a b 0 = List.replicate a.length 0 := by
  refine List.ext_getElem (by simp) fun i h1 h2 => ?_
  simp [sPart]
theorem sPart_all (a b : List Int) : sPart a b a.length = addL a b := by
  refine List.ext_getElem (by simp) fun i h1 h2 => ?_
  have h : i < a.length := by simpa using h1
  simp [sPart, addL, h]
theorem sPart_set (a b : List Int) (k : Nat) : (sPart a b k).set k (a.getD k 0 + b.getD k 0) = sPart a b (k + 1) := by
  refine List.ext_getElem (by simp) fun i h1 h2 => ?_
  rw [List.getElem_set]
  simp only [sPart, List.getElem_map, List.getElem_range]
  by_cases h : k = i
  · subst h; simp
  · rw [if_neg h]
    by_cases h' : i < k
    · rw [if_pos h', if_pos (by omega)]
    · rw [if_neg h', if_neg (by omega)]
def sumB (g : List (List Int)) (a b : List Int) : Bool := okG g && (okL g a && okL g b)
theorem sumB_iff {g : List (List Int)} {a b : List Int} (h : sumB g a b = true) : OkG g ∧ OkV a (wires g) 3 ∧ OkV b (wires g) 3 := by
  unfold sumB at h
  rw [Bool.and_eq_true, Bool.and_eq_true] at h
  exact ⟨okG_iff.1 h.1, (okN_iff (by decide)).1 h.2.1, (okN_iff (by decide)).1 h.2.2⟩
def sumG (g : List (List Int)) (a b : List Int) : Option (List Int) := if sumB g a b = true then (if okL g (addL a b) = true then some (addL a b) else none) else none
theorem sum_size {g : List (List Int)} {a b : List Int} (h : sumB g a b = true) : okL g (addL a b) = decide (sizeL (addL a b) ≤ 3) := by
  obtain ⟨hg, ha, hb⟩ := sumB_iff h
  rw [Bool.eq_iff_iff]
  unfold okL
  rw [okN_iff (by decide), decide_eq_true_eq]
  exact size_ok (by simp [ha.len]) (by decide)
theorem sum_small {g : List (List Int)} {a b : List Int} (h : sumB g a b = true) (k : Nat) : Small ((addL a b).getD k 0) := by
  obtain ⟨hg, ha, hb⟩ := sumB_iff h
  rcases Nat.lt_or_ge k a.length with hk | hk
  · rw [addL_get hk]
    have := ha.at_ k
    have := hb.at_ k
    exact ⟨by omega, by omega⟩
  · rw [getD_out (by simpa using hk)]; exact ⟨by omega, by omega⟩
theorem each_two (g : List (List Int)) (a b : List Int) : eachN [a, b] (wires g) 3 [a, b].length = (okL g a && okL g b) := by
  show ((true && _) && _) = _
  rfl
set_option maxRecDepth 100000 in
set_option maxHeartbeats 4000000 in
theorem Sum_c (A B C : Option Addr) (R : Rows) (g : List (List Int)) (a b : List Int) (cap cap' cap2 : Nat) (w : World) (hl : Brief g) (hl' : a.length ≤ 1000) (hl2 : b.length ≤ 1000) (hr : RT w A R g) (hs : Rd w B (ints a)) (ht : Rd w C (ints b)) :
    Calls Try.prog 52 #[.slice A g.length cap, .slice B a.length cap', .slice C b.length cap2] w (OutS (sumG g a b) (errB (sumB g a b)) w) := by
  have hb0 := bl_alloc (Below.refl w.heap.size w) (.cells #[.slice B a.length cap', .slice C b.length cap2] 23)
  have HV := Lib.hid (validateVolts_c A _ R (two B C cap' cap2) g [a, b] cap 2 _ hl ⟨by simp, fun k hk => by
    match k, hk with
    | 0, _ => exact hl'
    | 1, _ => exact hl2⟩ (hr.later hb0) (rt_two (c := cap') (d := cap2) 23 hs ht))
  rw [each_two] at HV
  change Hid (Calls _ _ _ _ fun e w' => e = .returned (.int .i64 (errB (sumB g a b))) ∧ _) at HV
  have HFO : Hid (∀ (o : Option (List Int)) (A' : Option Addr) (c' : Nat) (w' : World), sumG g a b = o → Rd w' A' (ints (found o)) → Below w.heap.size w w' → OutS (sumG g a b) (errB (sumB g a b)) w (.returned (.tuple #[.slice A' (found o).length c', .bool o.isSome, .int .i64 (errB (sumB g a b))])) w') := fun o A' c' w' h1 h3 h4 => by rw [h1]; exact ⟨A', c', rfl, h3, h4⟩
  generalize OutS (sumG g a b) (errB (sumB g a b)) w = FO at HFO ⊢
  by_cases hok : sumB g a b = true
  · obtain ⟨hg, ha, hb⟩ := sumB_iff hok
    have HG : Hid (sumG g a b = if okL g (addL a b) = true then some (addL a b) else none) := by show _ = _; unfold sumG; rw [if_pos hok]
    have HFL : Hid ((addL a b).length = a.length) := addL_len a b
    have HZ : Hid (okL g (addL a b) = decide (sizeL (addL a b) ≤ 3)) := sum_size hok
    have HSM := Lib.hid (sum_small hok)
    rw [hok] at HV HFO
    have hal := ha.len
    have hw3 := hg.wrs
    have hbl : b.length = a.length := by rw [hb.len, hal]
    have HMK := Lib.hid (make_ints a.length (by omega))
    have HA := Lib.hid (sPart_all a b)
    have H0 := Lib.hid (sPart_zero a b)
    have HL := Lib.hid hbl
    have HSET := Lib.hid (sPart_set a b)
    have hn3 : a.length ≤ 3 := by omega
    have HSZ := fun w1 (D : Option Addr) (d : Nat) (h : Rd w1 D (ints (addL a b))) => Lib.hid (size_c D (addL a b) d w1 (by simp; omega) HSM.out h)
    simp only [addL_len] at HSZ
    clear hal hbl hw3 hok HSM
    have hat := ha.at_
    have hbt := hb.at_
    clear ha hb hg
    go_enter Try.func52, Try.ntmps52
    go_wp2_with (fail)
    refine HV.out.mono ?_
    rintro e w1 ⟨rfl, hb1⟩
    rw [errB_t]
    have hb01 := bl_call hb0 hb1
    obtain ⟨cs, hmk, hcs⟩ := HMK.out w1
    have hR0 : Row (w1.alloc (.cells cs 3)) w1.heap.size (sPart a b 0) := by rw [hcs, H0.out]; exact Bx.new w1 _ _
    have hbl := bl_alloc hb01 (.cells cs 3)
    have hsw := hb01.size
    clear hcs
    go_wp2_with (fail)
    generalize w1.alloc (.cells cs 3) = w2 at *
    generalize w1.heap.size = N at *
    go_loopg [25] a.length (fun gk iv wr => ∃ k : Nat, Hid (k + gk = a.length) ∧ iv = .int .i64 (k : Int) ∧ Row wr N (sPart a b k) ∧ Below w.heap.size w wr)
    case atStart => exact ⟨0, by simp [Hid], rfl, hR0, hbl⟩
    case round =>
      clear hR0 hbl hmk
      obtain ⟨k, HK, rfl, hR, hb⟩ := hrel
      rcases gk with _ | gi
      · obtain rfl : k = a.length := HK.out
        rw [HA.out] at hR
        have HS1 := HSZ wr _ a.length hR.rd
        by_cases hz : sizeL (addL a b) ≤ 3
        · have HZ2 : Hid (okL g (addL a b) = true) := by show _ = _; rw [HZ.out]; exact decide_eq_true hz
          generalize sizeL (addL a b) = z at *
          go_wp2_with (fail)
          refine HS1.out.mono ?_
          rintro e w3 ⟨rfl, hb3⟩
          have hz' : ¬ 3 < z := by omega
          have hR3 := hR.call hb3
          have hb03 := bl_call hb hb3
          go_wp2_with (fail)
          go_ret3
          have hfo := HFO.out (some (addL a b)) (some ⟨N, 0, none⟩) a.length _ (by rw [HG.out, if_pos HZ2.out]) hR3.rd hb03
          rw [show (found (some (addL a b))).length = a.length from HFL.out] at hfo
          exact hfo
        · have HZ2 : Hid (okL g (addL a b) = false) := by show _ = _; rw [HZ.out]; exact decide_eq_false hz
          generalize sizeL (addL a b) = z at *
          go_wp2_with (fail)
          refine HS1.out.mono ?_
          rintro e w3 ⟨rfl, hb3⟩
          have hz' : 3 < z := by omega
          have hb03 := bl_call hb hb3
          go_wp2_with (fail)
          go_ret3
          exact HFO.out none none 0 _ (by rw [HG.out, if_neg (by rw [HZ2.out]; decide)]) (.inl rfl) hb03
      · have hkN : k < a.length := by have := HK.out; omega
        have hkN' : (k : Int) < (a.length : Int) := by omega
        have hkB : k < b.length := by rw [HL.out]; exact hkN
        have hkB' : (k : Int) < (b.length : Int) := by omega
        obtain ⟨b1, o1, rfl, _, c1⟩ := (hs.later hb).one hkN
        obtain ⟨b2, o2, rfl, _, c2⟩ := (ht.later hb).one hkB
        have c3 := hR.get (k := k) (by simpa using hkN)
        have c4 := hR.free k
        have s1 := hat k
        have s2 := hbt k
        have hset := hR.set k (a.getD k 0 + b.getD k 0)
        rw [HSET.out k] at hset
        have hbs := bl_set hb (g := N) (i := k) hsw (.int .i64 (a.getD k 0 + b.getD k 0))
        generalize a.getD k 0 = x at *
        generalize b.getD k 0 = z at *
        have q1 : wrap64 (x + z) = x + z := IntWalk.wrap64_in _ ⟨by omega, by omega⟩
        generalize (sPart a b k).getD k 0 = old at c3
        go_wp2_with (fail)
        go_region
        go_wp2_with (fail)
        go_roundg gi
        case rel => exact ⟨k + 1, by have := HK.out; show _ = _; omega, by go_num, hset, hbs.drew⟩
        case measure => omega
  · have hok' : sumB g a b = false := by simpa using hok
    have HG : Hid (sumG g a b = none) := by show _ = _; unfold sumG; rw [if_neg hok]
    rw [hok'] at HV HFO
    go_enter Try.func52, Try.ntmps52
    go_wp2_with (fail)
    refine HV.out.mono ?_
    rintro e w1 ⟨rfl, hb1⟩
    rw [errB_f]
    go_wp2_with (fail)
    go_ret3
    exact HFO.out none none 0 _ HG.out (.inl rfl) (bl_call hb0 hb1)
end Go.Proofs.Ytmmjdabioolodaa
