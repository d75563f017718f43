/- Which places are right; the specification's answers to that. -/
import Derived.Test.YtjgpfnnokdcgoaaVal
import Derived.Test.YtjgpfnnokdcgoaaCmp
import Derived.Test.YtjgpfnnokdcgoaaLow
namespace Go.Proofs.Ytjgpfnnokdcgoaa
open Go.RowKit Go.Maps

theorem within_c (n lo hi : Int) (w : World) : Calls Try.prog 64 #[.int .i64 n, .int .i64 lo, .int .i64 hi] w fun e w' => e = .returned (.bool (decide (lo ≤ n) && decide (n ≤ hi))) ∧ w = w' := by
  by_cases h1 : lo ≤ n
  · by_cases h2 : n ≤ hi
    · go_enter Try.func64, Try.ntmps64
      go_wp2
      go_ret
      exact ⟨by simp; omega, rfl⟩
    · go_enter Try.func64, Try.ntmps64
      go_wp2
      go_ret
      exact ⟨by simp; omega, rfl⟩
  · go_enter Try.func64, Try.ntmps64
    go_wp2
    go_ret
    exact ⟨by simp; omega, rfl⟩


set_option maxRecDepth 100000 in
set_option maxHeartbeats 2000000 in
theorem place_c (Z : Int) (A B : Option Addr) (l : List (Int × Int)) (p : List Int) (c d : Nat) (w : World) (hlen : l.length ≤ 1000) (hlen' : p.length ≤ 1000) (hr : Rd w A (cellsP l)) (hs : Rd w B (ints p)) :
    Calls Try.prog 24 #[trapV Z A l.length c, .slice B p.length d] w fun e w' => e = .returned (.int .i64 (placeE Z l p)) ∧ Below w.heap.size w w' := by
  have x0 := Bx.new w 24 #[.int .i64 Z, .slice A l.length c]
  have hb0 := bl_alloc (Below.refl w.heap.size w) (.cells #[.int .i64 Z, .slice A l.length c] 24)
  generalize hw0 : w.alloc (.cells #[.int .i64 Z, .slice A l.length c] 24) = w0 at *
  have HV := Lib.hid (validate_c Z A l c w0 hlen (hr.later hb0))
  have hE : Hid (placeE Z l p = if trapE Z l = 0 then (if p.length ≤ 4 then (if p.all (zoneOk Z) then (if onceB p then 0 else 6) else 1) else 3) else trapE Z l) := rfl
  have HT := Lib.hid (fun h => @trapE_zero Z l h)
  generalize placeE Z l p = E at *
  generalize trapE Z l = te at *
  by_cases ht : te = 0
  · subst ht
    obtain ⟨hz, _, _⟩ := HT.out rfl
    by_cases h4 : p.length ≤ 4
    · have hE2 : Hid (E = if p.all (zoneOk Z) then (if onceB p then 0 else 6) else 1) := by show _ = _; rw [hE.out, if_pos rfl, if_pos h4]
      have h4' : (p.length : Int) ≤ 4 := by omega
      have HI := fun x w => Lib.hid (isOneOf_c x Z w)
      clear hE HT
      go_enter Try.func24, Try.ntmps24
      obtain ⟨c0, c1, _⟩ := x0.two
      go_wp2_with (fail)
      refine HV.out.mono ?_
      rintro e w1 ⟨rfl, hb1⟩
      have hb01 := bl_call hb0 hb1
      have x1 := x0.call hb1
      clear c0 c1
      go_wp2_with (fail)
      go_loopg [18] p.length (fun gk iv wr => ∃ k : Nat, Hid (k + gk = p.length) ∧ iv = .int .i64 (k : Int) ∧ Bx wr w.heap.size 24 #[.int .i64 Z, .slice A l.length c] ∧ Hid ((p.take k).all (zoneOk Z) = true) ∧ Below w.heap.size w wr)
      case atStart => exact ⟨0, by simp [Hid], rfl, x1, by simp [Hid], hb01⟩
      case round =>
        obtain ⟨k, HK, rfl, xr, HO, hb⟩ := hrel
        obtain ⟨c0, c1, _⟩ := xr.two
        rcases gk with _ | gi
        · obtain rfl : k = p.length := HK.out
          have hO := HO.out
          rw [List.take_length] at hO
          have HW := Lib.hid (twiceInts_c B p d wr hlen' (fun x hx => by have h := zoneOk_iff.1 (List.all_eq_true.1 hO x hx); omega) (hs.later hb))
          have hE3 := hE2.out
          rw [hO] at hE3
          cases ho : onceB p with
          | true =>
            rw [ho] at HW hE3
            have HE3 := Lib.hid hE3
            clear hO hE3 ho hE2
            go_wp2_with (fail)
            refine HW.out.mono ?_
            rintro e w1 ⟨rfl, hb1⟩
            go_wp2_with (fail)
            go_ret
            exact ⟨by rw [HE3.out]; rfl, bl_call hb hb1⟩
          | false =>
            rw [ho] at HW hE3
            have HE3 := Lib.hid hE3
            clear hO hE3 ho hE2
            go_wp2_with (fail)
            refine HW.out.mono ?_
            rintro e w1 ⟨rfl, hb1⟩
            go_wp2_with (fail)
            go_ret
            exact ⟨by rw [HE3.out]; rfl, bl_call hb hb1⟩
        · have hkl : k < p.length := by have h := HK.out; omega
          have hkl' : (k : Int) < (p.length : Int) := by omega
          obtain ⟨b, o, rfl, hbl, hc⟩ := (hs.later hb).at_ (k := k) (by simpa using hkl)
          have d0 := hc k _ (ints_get hkl)
          clear hc
          have HN := Lib.hid (all_snoc (f := zoneOk Z) hkl (0 : Int))
          have HF := Lib.hid (fun h => all_not (f := zoneOk Z) hkl (0 : Int) h)
          generalize p.getD k 0 = x at *
          have HIx := fun w => HI x w
          cases hx : zoneOk Z x with
          | true =>
            have HO2 : Hid ((p.take (k + 1)).all (zoneOk Z) = true) := by show _ = _; rw [HN.out, HO.out, hx]; rfl
            rw [hx] at HIx
            clear HN HF hx HI
            go_wp2_with (fail)
            refine (HIx _).out.mono ?_
            rintro e w1 ⟨rfl, rfl⟩
            go_wp2_with (fail)
            go_roundg gi
            case rel => exact ⟨k + 1, by have h := HK.out; show _ = _; omega, by go_num, xr, HO2, hb⟩
            case measure => omega
          | false =>
            have HE3 : Hid (E = 1) := by show _ = _; rw [hE2.out, HF.out hx]; rfl
            rw [hx] at HIx
            clear HN HF hx HI
            go_wp2_with (fail)
            refine (HIx _).out.mono ?_
            rintro e w1 ⟨rfl, rfl⟩
            go_wp2_with (fail)
            go_ret
            exact ⟨by rw [HE3.out]; rfl, hb⟩
    · have hE2 : Hid (E = 3) := by show _ = _; rw [hE.out, if_pos rfl, if_neg h4]
      have h4' : (4 : Int) < (p.length : Int) := by omega
      clear hE HT
      go_enter Try.func24, Try.ntmps24
      obtain ⟨c0, c1, _⟩ := x0.two
      go_wp2_with (fail)
      refine HV.out.mono ?_
      rintro e w1 ⟨rfl, hb1⟩
      go_wp2_with (fail)
      go_ret
      exact ⟨by rw [hE2.out]; rfl, bl_call hb0 hb1⟩
  · have hE2 : Hid (E = te) := by show _ = _; rw [hE.out, if_neg ht]
    clear hE HT
    go_enter Try.func24, Try.ntmps24
    obtain ⟨c0, c1, _⟩ := x0.two
    go_wp2_with (fail)
    refine HV.out.mono ?_
    rintro e w1 ⟨rfl, hb1⟩
    go_wp2_with (fail)
    go_ret
    exact ⟨by rw [hE2.out]; rfl, bl_call hb0 hb1⟩
end Go.Proofs.Ytjgpfnnokdcgoaa
