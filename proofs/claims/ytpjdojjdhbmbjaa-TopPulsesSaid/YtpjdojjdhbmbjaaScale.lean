/- A pulse with all forces multiplied. -/
import Derived.Test.YtpjdojjdhbmbjaaRmodes
namespace Go.Proofs.Ytpjdojjdhbmbjaa
open Go.RowKit

def scF (by' f : Int) : Bool := f == 0 || (inB by' (-99) 99 && inB (wrap64 (f * by')) (-99) 99)
def scM (by' : Int) (p : List Int) : List Int := p.map fun f => wrap64 (f * by')
def scE (p : List Int) (by' : Int) : Int := if validE p = 0 then (if p.all (scF by') then 0 else 1) else validE p
def scL (p : List Int) (by' : Int) : List Int := if scE p by' = 0 then scM by' p else []
def scTo (by' : Int) (p : List Int) (k : Nat) : List Int := (List.range p.length).map fun j => if j < k then wrap64 (p.getD j 0 * by') else 0

theorem scTo_zero (b : Int) (p : List Int) : scTo b p 0 = sameRow p.length 0 := by
  apply List.ext_getElem <;> simp [scTo, sameRow]
theorem scTo_all (b : Int) (p : List Int) : scTo b p p.length = scM b p := by
  apply List.ext_getElem
  · simp [scTo, scM]
  · intro i h1 h2
    have hi : i < p.length := by simpa [scM] using h2
    simp [scTo, scM, hi]
theorem scTo_set (b : Int) (p : List Int) (k : Nat) : (scTo b p k).set k (wrap64 (p.getD k 0 * b)) = scTo b p (k + 1) := by
  apply List.ext_getElem
  · simp [scTo]
  · intro i h1 h2
    have hi : i < p.length := by simpa [scTo] using h2
    simp only [scTo, List.getElem_set, List.getElem_map, List.getElem_range]
    by_cases h : k = i
    · subst h; simp
    · rw [if_neg h]
      by_cases h3 : i < k
      · rw [if_pos h3, if_pos (by omega)]
      · rw [if_neg h3, if_neg (by omega)]
theorem scTo_skip (b : Int) (p : List Int) (k : Nat) (h : p.getD k 0 = 0) : scTo b p (k + 1) = scTo b p k := by
  apply List.ext_getElem
  · simp [scTo]
  · intro i h1 h2
    simp only [scTo, List.getElem_map, List.getElem_range]
    by_cases h : k = i
    · subst h
      rw [if_pos (by omega), if_neg (by omega), h, Int.zero_mul]; decide +kernel
    · by_cases h3 : i < k
      · rw [if_pos h3, if_pos (by omega)]
      · rw [if_neg h3, if_neg (by omega)]
theorem scTo_len (b : Int) (p : List Int) (k : Nat) : (scTo b p k).length = p.length := by simp [scTo]
theorem scM_len (b : Int) (p : List Int) : (scM b p).length = p.length := by simp [scM]
theorem sc_end {b : Int} {p : List Int} (h : (p.all fun f => f == 0 || inB b (-99) 99) = true) : p.all (scF b) = forces (scM b p) := by
  rw [forces, scM, List.all_map, Bool.eq_iff_iff, List.all_eq_true, List.all_eq_true]
  rw [List.all_eq_true] at h
  have hz : inB (wrap64 0) (-99) 99 = true := by decide +kernel
  constructor
  · intro hx f hf
    have h1 := hx f hf
    by_cases h0 : f = 0
    · subst h0; simpa using hz
    · simp [scF, h0] at h1; simpa using h1.2
  · intro hx f hf
    have h1 := hx f hf
    have h2 := h f hf
    by_cases h0 : f = 0
    · subst h0; simp [scF]
    · simp [h0] at h2; simp at h1; simp [scF, h1, h2]
theorem sc_bad {b : Int} {p : List Int} {k : Nat} (hk : k < p.length) (h : scF b (p.getD k 0) = false) : p.all (scF b) = false := all_no (scF b) hk h
theorem sc_ok {p : List Int} {b : Int} (h : validE p = 0) (ha : p.all (scF b) = true) : scE p b = 0 ∧ scL p b = scM b p := by
  have : scE p b = 0 := by rw [scE, if_pos h, if_pos ha]
  exact ⟨this, by rw [scL, if_pos this]⟩
theorem sc_arg {p : List Int} {b : Int} (h : validE p = 0) (ha : p.all (scF b) = false) : scE p b = 1 ∧ scL p b = [] := by
  have : scE p b = 1 := by rw [scE, if_pos h, if_neg (by simp [ha])]
  exact ⟨this, by rw [scL, if_neg (by omega)]⟩
theorem sc_err {p : List Int} {b : Int} (h : ¬ validE p = 0) : scE p b = validE p ∧ scL p b = [] := by
  have : scE p b = validE p := by rw [scE, if_neg h]
  exact ⟨this, by rw [scL, if_neg (by rw [this]; exact h)]⟩
theorem validE_len {p : List Int} (h : validE p = 0) : p.length ≤ 12 := by
  by_cases hl : p.length ≤ 12
  · exact hl
  · rw [validE_big hl] at h; omega
/-- What both answer. -/
def ScOut (p : List Int) (b : Int) (w : World) (e : Ending) (w' : World) : Prop := ∃ A' c, e = .returned (.tuple #[.slice A' (scL p b).length c, .int .i64 (scE p b)]) ∧ Rd w' A' (ints (scL p b)) ∧ Below w.heap.size w w'

set_option maxHeartbeats 800000 in
theorem scale_c (A : Option Addr) (p : List Int) (cap : Nat) (b : Int) (w : World) (hr : Rd w A (ints p)) :
    Calls Try.prog 39 #[.slice A p.length cap, .int .i64 b] w (ScOut p b w) := by
  have HV := Lib.hid (validate_c A p cap w hr)
  by_cases hv : validE p = 0
  · have hlen := validE_len hv
    have HOK := Lib.hid (@sc_ok p b hv)
    have HAR := Lib.hid (@sc_arg p b hv)
    obtain ⟨cs, hmk, hcs⟩ := make_ints p.length (by omega) w
    have HCS := Lib.hid hcs
    clear hcs
    rw [hv] at HV
    clear hv
    go_enter Try.func39, Try.ntmps39
    go_wp2_with (fail)
    refine HV.out.mono ?_
    rintro e w' ⟨rfl, rfl⟩
    clear HV
    go_wp2_with (fail)
    go_loopw [20] (fun i wr => ∃ k : Nat, k ≤ p.length ∧ i = .int .i64 k ∧ Hid ((p.take k).all (scF b) = true) ∧ Row wr w.heap.size (scTo b p k) ∧ Below w.heap.size w wr) (fun i _ => p.length - (intOf i).toNat)
    case atStart => exact ⟨0, Nat.zero_le _, rfl, by simp [Hid], by rw [scTo_zero, HCS.out]; exact Bx.new w _ _, bl_alloc (Below.refl _ _) _⟩
    case round =>
      obtain ⟨k, hk, rfl, hall, hrow, hb⟩ := hrel
      clear hmk HCS
      by_cases hlt : k < p.length
      · obtain ⟨bb, o, rfl, _, hc⟩ := (hr.later hb).at_ (k := k) (by simpa using hlt)
        have hck := hc k _ (ints_get hlt)
        clear hc
        have H1 := Lib.hid (all_take_succ (scF b) hlt)
        have H2 := Lib.hid (@sc_bad b p k hlt)
        have HS := Lib.hid (scTo_set b p k)
        have HK := Lib.hid (scTo_skip b p k)
        have hg := hrow.get (k := k) (by rw [scTo_len]; exact hlt)
        have hfr := Bx.free hrow k
        have hset := hrow.set k (wrap64 (p.getD k 0 * b))
        rw [HS.out] at hset
        have hbs := bl_set hb (Nat.le_refl w.heap.size) (i := k) (.int .i64 (wrap64 (p.getD k 0 * b)))
        clear HS
        generalize (scTo b p k).getD k 0 = old at hg
        generalize p.getD k 0 = f at hck H1 H2 HK hset hbs
        by_cases hf : f = 0
        · subst hf
          have HK' := HK.out rfl
          rw [← HK'] at hrow
          clear hset hbs H2 HK HK' hg hfr
          go_wp2_with (fail)
          go_roundw
          case rel => exact ⟨k + 1, by omega, by go_num, by show _ = _; rw [H1.out, hall.out]; rfl, hrow, hb⟩
          case measure => simp [intOf]; omega
        · have hf' : (f == 0) = false := by simpa using hf
          clear HK hrow
          by_cases hB : inB b (-99) 99 = true
          · by_cases hN : inB (wrap64 (f * b)) (-99) 99 = true
            · go_wp2_with (go_at_call 61; refine (isForce_c _ _).mono ?_; rintro e w' ⟨rfl, rfl⟩)
              go_roundw
              case rel => exact ⟨k + 1, by omega, by go_num, by show _ = _; rw [H1.out, hall.out, scF, hB, hN]; simp, hset, hbs⟩
              case measure => simp [intOf]; omega
            · have hN' : inB (wrap64 (f * b)) (-99) 99 = false := by simpa using hN
              have HX := HAR.out (H2.out (by rw [scF, hf', hN']; simp))
              clear hN
              go_wp2_with (go_at_call 61; refine (isForce_c _ _).mono ?_; rintro e w' ⟨rfl, rfl⟩)
              go_ret2
              exact ⟨none, 0, by rw [HX.1, HX.2]; rfl, by rw [HX.2]; exact Rd.nil _ _, hbs⟩
          · have hB' : inB b (-99) 99 = false := by simpa using hB
            have HX := HAR.out (H2.out (by rw [scF, hf', hB']; simp))
            clear hB
            go_wp2_with (go_at_call 61; refine (isForce_c _ _).mono ?_; rintro e w' ⟨rfl, rfl⟩)
            go_ret2
            exact ⟨none, 0, by rw [HX.1, HX.2]; rfl, by rw [HX.2]; exact Rd.nil _ _, hb⟩
      · obtain rfl : k = p.length := by omega
        have ha := hall.out
        rw [List.take_length] at ha
        have HX := HOK.out ha
        rw [scTo_all] at hrow
        go_wp2_with (fail)
        go_ret2
        exact ⟨some ⟨w.heap.size, 0, none⟩, p.length, by rw [HX.1, HX.2, scM_len]; rfl, by rw [HX.2]; exact hrow.rd, hb⟩
  · have hv' : (validE p != 0) = true := by simpa using hv
    have HX := sc_err (b := b) hv
    clear hv
    go_enter Try.func39, Try.ntmps39
    go_wp2_with (fail)
    refine HV.out.mono ?_
    rintro e w' ⟨rfl, rfl⟩
    go_wp2_with (fail)
    go_ret2
    exact ⟨none, 0, by rw [HX.1, HX.2]; rfl, by rw [HX.2]; exact Rd.nil _ _, Below.refl _ _⟩

set_option maxHeartbeats 800000 in
theorem rscale_c (A : Option Addr) (p : List Int) (cap : Nat) (b : Int) (w : World) (hr : Rd w A (ints p)) :
    Calls Try.prog 40 #[.slice A p.length cap, .int .i64 b] w (ScOut p b w) := by
  obtain ⟨i0, hi, hz0, hz1, hz2⟩ := info_parts int_info
  have HV := Lib.hid (rvalidate_c A p cap w hr)
  by_cases hv : validE p = 0
  · have hlen := validE_len hv
    have HOK := Lib.hid (@sc_ok p b hv)
    have HAR := Lib.hid (@sc_arg p b hv)
    rw [hv] at HV
    clear hv
    go_enter Try.func40, Try.ntmps40
    go_wp2_with (fail)
    refine HV.out.mono ?_
    rintro e w' ⟨rfl, rfl⟩
    clear HV
    go_wp2_with (fail)
    go_loopw [7, 8] (fun v i wr => ∃ k : Nat, k ≤ p.length ∧ i = .int .i64 k ∧ Hid ((p.take k).all (fun f => f == 0 || inB b (-99) 99) = true) ∧ wr.ownsRow w.heap.size 3 1 v k (ints (scM b (p.take k))) ∧ Below w.heap.size w wr) (fun _ i _ => p.length - (intOf i).toNat)
    case atStart => exact ⟨0, Nat.zero_le _, rfl, by simp [Hid], World.ownsRow_nil _ _ _ _, Below.refl _ _⟩
    case round =>
      obtain ⟨k, hk, rfl, hall, hown, hb⟩ := hrel
      by_cases hlt : k < p.length
      · obtain ⟨bb, o, rfl, _, hc⟩ := (hr.later hb).at_ (k := k) (by simpa using hlt)
        have hck := hc k _ (ints_get hlt)
        clear hc
        have H1 := Lib.hid (all_take_succ (fun f => f == 0 || inB b (-99) 99) hlt)
        have H2 := Lib.hid (@sc_bad b p k hlt)
        have HT : Hid (scM b (p.take (k + 1)) = scM b (p.take k) ++ [wrap64 (p.getD k 0 * b)]) := by
          show _ = _
          rw [List.take_succ_eq_append_getElem hlt, scM, List.map_append]; simp [scM, hlt]
        generalize p.getD k 0 = f at hck H1 H2 HT
        generalize scM b (p.take k) = L at hown HT
        by_cases hf : f = 0
        · subst hf
          clear H2
          have hz : wrap64 (0 * b) = 0 := by rw [Int.zero_mul]; decide +kernel
          rw [hz] at HT
          clear hz
          go_wp2_with (first | (at_builtin; refine wpList_append_own _ rfl _ _ 22 rfl w.heap.size 3 i0 _ 1 8 Try.underlying22 hi hz0 hz1 hz2 rfl (by decide) _ _ _ rfl (hown.alloc _) ⟨wr.heap.size, 0, none⟩ 1 1 [.int .i64 0] rfl rfl ?c1 ?c2 ?c3 ?c4 ?c5 ?_) | (go_at_call 36; refine (within_c _ _ _ _).mono ?_; rintro e w' ⟨rfl, rfl⟩))
          case c1 =>
            intro j x hj
            have hadd : (⟨wr.heap.size, 0, none⟩ : Addr).add j = ⟨wr.heap.size, j, none⟩ := by unfold Addr.add; split <;> simp_all
            rw [hadd]
            match j, hj with
            | 0, hj => simp at hj; subst hj; simp
          case c2 => intro x hx; simp at hx; rcases hx with rfl; rfl
          case c3 => unfold maxLen; omega
          case c4 => omega
          case c5 => have := hb.size; simp; omega
          intro v2 w4 hown4 hg4 _
          have hb4 : Below w.heap.size w w4 := (bl_alloc hb _).trans (grown_below (hown.alloc _) hg4 (by have := hb.size; simp; omega))
          have HO : Hid (w4.ownsRow w.heap.size 3 1 v2 (k + 1) (ints (scM b (p.take (k + 1))))) := by
            show World.ownsRow _ _ _ _ _ _ _
            rw [HT.out, ints_snoc]; exact hown4
          clear hown4 hg4 hown
          go_wp2_with (fail)
          go_roundw
          case rel => exact ⟨k + 1, by omega, by go_num, by show _ = _; rw [H1.out, hall.out, show ((0 : Int) == 0 || inB b (-99) 99) = true from rfl]; rfl, HO.out, hb4⟩
          case measure => simp [intOf]; omega
        · have hf' : (f != 0) = true := by simpa using hf
          have hf2 : (f == 0) = false := by simpa using hf
          by_cases hB : inB b (-99) 99 = true
          · clear H2
            go_wp2_with (first | (at_builtin; refine wpList_append_own _ rfl _ _ 22 rfl w.heap.size 3 i0 _ 1 8 Try.underlying22 hi hz0 hz1 hz2 rfl (by decide) _ _ _ rfl (hown.alloc _) ⟨wr.heap.size, 0, none⟩ 1 1 [.int .i64 (wrap64 (f * b))] rfl rfl ?c1 ?c2 ?c3 ?c4 ?c5 ?_) | (go_at_call 36; refine (within_c _ _ _ _).mono ?_; rintro e w' ⟨rfl, rfl⟩))
            case c1 =>
              intro j x hj
              have hadd : (⟨wr.heap.size, 0, none⟩ : Addr).add j = ⟨wr.heap.size, j, none⟩ := by unfold Addr.add; split <;> simp_all
              rw [hadd]
              match j, hj with
              | 0, hj => simp at hj; subst hj; simp
            case c2 => intro x hx; simp at hx; rcases hx with rfl; rfl
            case c3 => unfold maxLen; omega
            case c4 => omega
            case c5 => have := hb.size; simp; omega
            intro v2 w4 hown4 hg4 _
            have hb4 : Below w.heap.size w w4 := (bl_alloc hb _).trans (grown_below (hown.alloc _) hg4 (by have := hb.size; simp; omega))
            have HO : Hid (w4.ownsRow w.heap.size 3 1 v2 (k + 1) (ints (scM b (p.take (k + 1))))) := by
              show World.ownsRow _ _ _ _ _ _ _
              rw [HT.out, ints_snoc]; exact hown4
            clear hown4 hg4 hown
            go_wp2_with (fail)
            go_roundw
            case rel => exact ⟨k + 1, by omega, by go_num, by show _ = _; rw [H1.out, hall.out, hf2, hB]; rfl, HO.out, hb4⟩
            case measure => simp [intOf]; omega
          · have hB' : inB b (-99) 99 = false := by simpa using hB
            have HX := HAR.out (H2.out (by rw [scF, hf2, hB']; simp))
            clear hB
            go_wp2_with (go_at_call 36; refine (within_c _ _ _ _).mono ?_; rintro e w' ⟨rfl, rfl⟩)
            go_ret2
            exact ⟨none, 0, by rw [HX.1, HX.2]; rfl, by rw [HX.2]; exact Rd.nil _ _, hb⟩
      · obtain rfl : k = p.length := by omega
        have ha := hall.out
        rw [List.take_length] at ha hown
        obtain ⟨A', c, rfl⟩ := own_form hown
        have hrd := (own_rd hown).1
        have HE := Lib.hid (sc_end ha)
        have hl' : (scM b p).length = p.length := scM_len b p
        have HV2 := fun cap => Lib.hid (rvalidate_c A' (scM b p) cap wr hrd)
        rw [hl'] at HV2
        have hve : validE (scM b p) = if p.all (scF b) then 0 else 1 := by
          rw [validE, if_pos (by omega), HE.out]
        rw [hve] at HV2
        clear HE hve
        cases hq : p.all (scF b) with
        | true =>
          rw [hq] at HV2
          have HX := HOK.out hq
          go_wp2_with (fail)
          refine (HV2 _).out.mono ?_
          rintro e w' ⟨rfl, rfl⟩
          go_wp2_with (fail)
          go_ret2
          exact ⟨A', c, by rw [HX.1, HX.2, hl']; rfl, by rw [HX.2]; exact hrd, hb⟩
        | false =>
          rw [hq] at HV2
          have HX := HAR.out hq
          go_wp2_with (fail)
          refine (HV2 _).out.mono ?_
          rintro e w' ⟨rfl, rfl⟩
          go_wp2_with (fail)
          go_ret2
          exact ⟨none, 0, by rw [HX.1, HX.2]; rfl, by rw [HX.2]; exact Rd.nil _ _, hb⟩
  · have hv' : (validE p != 0) = true := by simpa using hv
    have HX := sc_err (b := b) hv
    clear hv
    go_enter Try.func40, Try.ntmps40
    go_wp2_with (fail)
    refine HV.out.mono ?_
    rintro e w' ⟨rfl, rfl⟩
    go_wp2_with (fail)
    go_ret2
    exact ⟨none, 0, by rw [HX.1, HX.2]; rfl, by rw [HX.2]; exact Rd.nil _ _, Below.refl _ _⟩
end Go.Proofs.Ytpjdojjdhbmbjaa
