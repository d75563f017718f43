/- Readings at other times: package drift's. -/
import Derived.Test.YtbbhaongakmhpaaOpp
namespace Go.Proofs.Ytbbhaongakmhpaa
open Go.RowKit

def wrpL (l : List T3) (b : Int) : List T3 := l.map fun a => (wrap64 (a.1 + b), a.2.1, a.2.2)
theorem wrp_length (l : List T3) (b : Int) : (wrpL l b).length = l.length := by simp [wrpL]
theorem wrp_err {l : List T3} {b : Int} (hl : Ok l) (hb : (Lit.int .i64 b).wf = true) : validE (wrpL l b) = shfE l b ∧ (shfE l b = 0 → wrpL l b = shiftL l b) := by
  have hv := validE_ok.2 hl
  obtain ⟨hb1, hb2⟩ : -9223372036854775808 ≤ b ∧ b ≤ 9223372036854775807 := by simpa [Lit.wf, IntKind.min, IntKind.max, IntKind.signed, IntKind.bits] using hb
  by_cases h : b ≤ 9223372036854775807 - 1000
  · have e : wrpL l b = shiftL l b := by
      refine List.map_congr_left fun a ha => ?_
      obtain ⟨k, hk, rfl⟩ := List.getElem_of_mem ha
      have h0 := hl.t0 k hk
      have h1 := hl.t1 k hk
      have e : tm l k = l[k].1 := by simp [tm, hk]
      rw [e] at h0 h1
      rw [IntWalk.wrap64_in _ ⟨by omega, by omega⟩]
    rw [e, shift_err hl, shfE, if_pos hv]
    exact ⟨rfl, fun _ => rfl⟩
  · have hn := hl.ne
    have hlen := hl.len
    have hin : ¬ inB b (-(tm l 0)) (1000 - tm l (l.length - 1)) = true := by
      rw [inB_z]
      have := hl.t0 (l.length - 1) (by omega)
      omega
    have e1 : shfE l b = 1 := by rw [shfE, if_pos hv, if_neg hin]
    rw [e1]
    refine ⟨?_, fun h => by cases h⟩
    have h1 : validE (wrpL l b) ≠ 0 := fun h0 => by
      have ho := validE_ok.1 h0
      have q0 := ho.t0 0 (by rw [wrp_length]; exact hn)
      have q1 := ho.t1 0 (by rw [wrp_length]; exact hn)
      have e : tm (wrpL l b) 0 = wrap64 (tm l 0 + b) := by simp [tm, wrpL, hn]
      rw [e] at q0 q1
      have r0 := hl.t0 0 hn
      have r1 := hl.t1 0 hn
      unfold wrap64 at q0 q1
      omega
    unfold validE at h1 ⊢
    rw [if_pos ⟨by rw [wrp_length]; exact hn, by rw [wrp_length]; exact hlen⟩] at h1 ⊢
    unfold readE at h1 ⊢
    split at h1
    · exact absurd rfl h1
    · rename_i h4; rw [if_neg h4]
theorem shf_cases {l : List T3} {b : Int} (hl : Ok l) (hb : (Lit.int .i64 b).wf = true) : (validE (wrpL l b) = 0 ∧ shfE l b = 0 ∧ shfL l b = wrpL l b) ∨ (validE (wrpL l b) ≠ 0 ∧ shfE l b = validE (wrpL l b) ∧ shfL l b = []) := by
  obtain ⟨h1, h2⟩ := wrp_err hl hb
  by_cases h : shfE l b = 0
  · exact .inl ⟨by rw [h1, h], h, by rw [shfL, if_pos h, h2 h]⟩
  · exact .inr ⟨by rw [h1]; exact h, h1.symm, by rw [shfL, if_neg h]⟩
set_option maxRecDepth 100000 in
set_option maxHeartbeats 4000000 in
theorem Shift_c (A : Option Addr) (l : List T3) (c : Nat) (b : Int) (w : World) (hlen : l.length ≤ 1000) (hr : Rd w A (cellsT l)) (hb : (Lit.int .i64 b).wf = true) :
    Calls Try.prog 48 #[.slice A l.length c, .int .i64 b] w (OutR (shfL l b) (shfE l b) w) := by
  have HV := Lib.hid (validate_c A l c w hlen hr)
  by_cases hv : validE l = 0
  · have ho := validE_ok.1 hv
    have HCS := Lib.hid (shf_cases ho hb)
    have HC := fun w1 h => Lib.hid (cloneR_c A l c w1 hlen h)
    have HV2 := Lib.hid (fun A c w h => validate_c A (wrpL l b) c w (by rw [wrp_length]; exact hlen) h)
    rw [wrp_length] at HV2
    rw [hv] at HV
    have HML : Hid ((wrpL l b).length = l.length) := wrp_length l b
    have HMA : Hid (mp (fun a : T3 => ((wrap64 (a.1 + b), a.2.1, a.2.2) : T3)) l l.length = wrpL l b) := mp_all (fun a : T3 => ((wrap64 (a.1 + b), a.2.1, a.2.2) : T3)) l
    have HMG := Lib.hid (fun k h => @mp_get (fun a : T3 => ((wrap64 (a.1 + b), a.2.1, a.2.2) : T3)) l k h)
    have HMS := Lib.hid (fun k h => @mp_set (fun a : T3 => ((wrap64 (a.1 + b), a.2.1, a.2.2) : T3)) l k h)
    have HMN := Lib.hid (fun k h => @mp_len (fun a : T3 => ((wrap64 (a.1 + b), a.2.1, a.2.2) : T3)) l k h)
    have HM0 := Lib.hid (mp_zero (fun a : T3 => ((wrap64 (a.1 + b), a.2.1, a.2.2) : T3)) l)
    generalize wrpL l b = R at *
    generalize hmp : mp (fun a : T3 => ((wrap64 (a.1 + b), a.2.1, a.2.2) : T3)) l = mpf at *
    clear hmp hv ho
    go_enter Try.func48, Try.ntmps48
    go_wp2_with (fail)
    refine HV.out.mono ?_
    rintro e w1 ⟨rfl, hb1⟩
    go_wp2_with (fail)
    refine (HC _ (hr.later hb1)).out.mono ?_
    rintro e w3 ⟨A3, c3, rfl, ho3, hb3⟩
    have hb13 := bl_call hb1 hb3
    have ho4 : w3.ownsRow w.heap.size 55 3 (.slice A3 l.length c3) l.length (cellsT (mpf 0)) := by rw [HM0.out]; exact own_base ho3 hb1.size
    go_wp2_with (fail)
    go_loopg [19] l.length (fun gk iv wr => ∃ k : Nat, Hid (k + gk = l.length) ∧ iv = .int .i64 (k : Int) ∧ wr.ownsRow w.heap.size 55 3 (.slice A3 l.length c3) l.length (cellsT (mpf k)) ∧ Below w.heap.size w wr)
    case atStart => exact ⟨0, by simp [Hid], rfl, ho4, hb13⟩
    case round =>
      obtain ⟨k, HK, rfl, hown, hb⟩ := hrel
      rcases gk with _ | gi
      · obtain rfl : k = l.length := HK.out
        rw [HMA.out] at hown
        have hrR := (own_rd hown).1
        rcases HCS.out with ⟨hv2, hE, hL⟩ | ⟨hv2, hE, hL⟩
        · have HV3 := Lib.hid (HV2.out A3 c3 wr hrR)
          have HE := Lib.hid hE
          have HL := Lib.hid hL
          clear hE hL
          rw [hv2] at HV3
          clear HV2 HCS hv2
          go_wp2_with (go_at_call 23; refine HV3.out.mono ?_; rintro e w5 ⟨rfl, hb5⟩)
          go_ret2
          exact ⟨A3, c3, by rw [HL.out, HE.out, HML.out]; rfl, by rw [HL.out, HML.out]; exact own_call hown hb5, bl_call hb hb5⟩
        · have HE := Lib.hid hE
          have HL := Lib.hid hL
          clear hE hL
          have HV3 := Lib.hid (HV2.out A3 c3 wr hrR)
          have hv3 : (validE R != 0) = true := by simpa using hv2
          generalize validE R = ev at *
          clear HV2 HCS
          go_wp2_with (go_at_call 23; refine HV3.out.mono ?_; rintro e w5 ⟨rfl, hb5⟩)
          go_ret2
          exact ⟨none, 0, by rw [HL.out, HE.out]; rfl, by rw [HL.out]; exact World.ownsRow_nil _ _ _ _, bl_call hb hb5⟩
      · have hkl : k < l.length := by have := HK.out; omega
        have hkl' : (k : Int) < (l.length : Int) := by omega
        have hml := HMN.out k (by omega)
        obtain ⟨g, rfl, hgb, hgl, ⟨c0, c1, c2⟩, f0, f1, f2⟩ := own_at3 hown hml hkl
        have ho5 := own_set0 (k := k) hown (wrap64 ((l.getD k t0).1 + b))
        rw [HMG.out k hkl] at c0 c1 c2 ho5
        rw [HMS.out k hkl] at ho5
        have hb5 := bl_set hb hgb (i := k * 3) (.int .i64 (wrap64 ((l.getD k t0).1 + b)))
        clear c1 c2 f1 f2 hml hown
        generalize (l.getD k t0).1 = x at *
        have e1 : IntKind.i64.wrap (x + b) = wrap64 (x + b) := IntWalk.i64_left _
        have HO5 := Lib.hid ho5
        have HB5 := Lib.hid hb5
        clear ho5 hb5
        go_wp2_with (fail)
        go_roundg gi
        case rel => exact ⟨k + 1, by have := HK.out; show _ = _; omega, by go_num, HO5.out, HB5.out⟩
        case measure => omega
  · have HB : shfE l b = validE l := by rw [shfE, if_neg hv]
    have HB2 : shfL l b = [] := by rw [shfL, if_neg (by rw [HB]; exact hv)]
    have hv' : (validE l != 0) = true := by simpa using hv
    rw [HB, HB2]
    clear HB HB2
    generalize validE l = ev at *
    go_enter Try.func48, Try.ntmps48
    go_wp2_with (fail)
    refine HV.out.mono ?_
    rintro e w1 ⟨rfl, hb1⟩
    go_wp2_with (fail)
    go_ret2
    exact ⟨none, 0, rfl, World.ownsRow_nil _ _ _ _, hb1⟩
end Go.Proofs.Ytbbhaongakmhpaa
