/- The specification's answer to which places are right, and whether two zones have a link. -/
import Derived.Test.YtjgpfnnokdcgoaaRval
namespace Go.Proofs.Ytjgpfnnokdcgoaa
open Go.RowKit Go.Maps

theorem rd_take {w : World} {b o : Nat} {p : List Int} (n : Nat) (h : Rd w (some ⟨b, o, none⟩) (ints p)) : Rd w (some ⟨b, o, none⟩) (ints (p.take n)) := by
  rcases h with h | ⟨b', o', he, hb, hc⟩
  · left
    have : p = [] := by cases p with | nil => rfl | cons x t => simp [ints] at h
    subst this; simp [ints]
  · refine .inr ⟨b', o', he, hb, fun j v hv => hc j v ?_⟩
    have e : ints p = ints (p.take n) ++ ints (p.drop n) := by simp [ints]
    rw [e, List.getElem?_append_left (List.getElem?_eq_some_iff.1 hv).1]
    exact hv

theorem Bx.drewN {w : World} {g : Nat} {T : TypeId} {cs : Array Value} (h : Bx w g T cs) : ∀ n, Bx (w.drewN n) g T cs
  | 0 => h
  | n + 1 => Bx.drewN h n

set_option maxRecDepth 100000 in
set_option maxHeartbeats 4000000 in
theorem rplace_c (Z : Int) (A B : Option Addr) (l : List (Int × Int)) (p : List Int) (c d : Nat) (w : World) (hlen : l.length ≤ 1000) (hlen' : p.length ≤ 1000) (hcap : p.length ≤ d) (hr : Rd w A (cellsP l)) (hs : Rd w B (ints p)) :
    Calls Try.prog 25 #[trapV Z A l.length c, .slice B p.length d] w fun e w' => e = .returned (.int .i64 (placeE Z l p)) ∧ Below w.heap.size w w' := by
  have x0 := Bx.new w 24 #[.int .i64 Z, .slice A l.length c]
  have hb0 := bl_alloc (Below.refl w.heap.size w) (.cells #[.int .i64 Z, .slice A l.length c] 24)
  generalize hw0 : w.alloc (.cells #[.int .i64 Z, .slice A l.length c] 24) = w0 at *
  have HV := Lib.hid (rvalidate_c Z A l c w0 hlen (hr.later hb0))
  have hE : Hid (placeE Z l p = if trapE Z l = 0 then (if p.length ≤ 4 then (if p.all (zoneOk Z) then (if onceB p then 0 else 6) else 1) else 3) else trapE Z l) := rfl
  have HT := Lib.hid (fun h => @trapE_zero Z l h)
  generalize placeE Z l p = E at *
  generalize trapE Z l = te at *
  by_cases ht : te = 0
  · subst ht
    obtain ⟨hz, _, _⟩ := HT.out rfl
    by_cases h4 : p.length ≤ 4
    · have hE2 : Hid (E = if p.all (zoneOk Z) then (if onceB p then 0 else 6) else 1) := by show _ = _; rw [hE.out, if_pos rfl, if_pos h4]
      have h4' : (p.length : Int) ≤ 4 := by omega
      clear hE HT
      go_enter Try.func25, Try.ntmps25
      obtain ⟨c0, c1, _⟩ := x0.two
      go_wp2_with (fail)
      refine HV.out.mono ?_
      rintro e w1 ⟨rfl, hb1⟩
      have hb01 := bl_call hb0 hb1
      have x1 := x0.call hb1
      clear c0 c1
      go_wp2_with (fail)
      go_loopg [6] p.length (fun gk iv wr => ∃ k : Nat, Hid (k + gk = p.length) ∧ iv = .int .i64 (k : Int) ∧ Bx wr w.heap.size 24 #[.int .i64 Z, .slice A l.length c] ∧ Hid ((p.take k).all (zoneOk Z) = true) ∧ Below w.heap.size w wr)
      case atStart => exact ⟨0, by simp [Hid], rfl, x1, by simp [Hid], hb01⟩
      case round =>
        obtain ⟨k, HK, rfl, xr, HO, hb⟩ := hrel
        obtain ⟨c0, c1, _⟩ := xr.two
        rcases gk with _ | gi
        · obtain rfl : k = p.length := HK.out
          have hO := HO.out
          rw [List.take_length] at hO
          have hE3 : Hid (E = if onceB p then 0 else 6) := by show _ = _; rw [hE2.out, if_pos hO]
          clear hO hE2 HO
          obtain ⟨wo, rfl⟩ : ∃ wo, wo = wr := ⟨_, rfl⟩
          go_wp2_with (fail)
          clear c0 c1
          go_loopg [7] p.length (fun gk iv wr => ∃ k : Nat, Hid (k + gk = p.length) ∧ iv = .int .i64 (k : Int) ∧ Hid (onceB (p.take k) = true) ∧ Below w.heap.size w wr)
          case atStart => exact ⟨0, by simp [Hid], rfl, by simp [Hid, onceB], hb⟩
          case round =>
            obtain ⟨k, HK, rfl, HO, hb⟩ := hrel
            rcases gk with _ | gi
            · obtain rfl : k = p.length := HK.out
              have hO := HO.out
              rw [List.take_length] at hO
              have hE4 : Hid (E = 0) := by show _ = _; rw [hE3.out, hO]; rfl
              clear hO
              go_wp2_with (fail)
              go_ret
              exact ⟨by rw [hE4.out]; rfl, hb⟩
            · have hkl : k < p.length := by have h := HK.out; omega
              have hkl' : (k : Int) < (p.length : Int) := by omega
              have hrb := hs.later hb
              obtain ⟨b, o, rfl, hbl, hc⟩ := hrb.at_ (k := k) (by simpa using hkl)
              have d0 := hc k _ (ints_get hkl)
              clear hc
              have HN := Lib.hid (once_snoc hkl (0 : Int))
              have HTw := Lib.hid (fun h => @once_twice _ _ p k hkl (0 : Int) h)
              have htl : (p.take k).length = k := by simp; omega
              have HH : ∀ w1, Below w.heap.size w w1 → Hid (Calls Try.prog 66 #[.slice (some ⟨b, o, none⟩) k d, .int .i64 (p.getD k 0)] w1 fun e w' => e = .returned (.bool (decide (p.getD k 0 ∈ p.take k))) ∧ w1 = w') := fun w1 hb1 => by
                have h := has_c (some ⟨b, o, none⟩) (p.take k) d (p.getD k 0) w1 (by omega) (rd_take k (hs.later hb1))
                rw [htl] at h
                exact h
              clear htl
              have HD : ∀ w1, Below w.heap.size w w1 → Hid (w1.cell? ⟨b, o + k, none⟩ = some (.int .i64 (p.getD k 0))) := fun w1 hb1 => by
                obtain ⟨b', o', he, _, hc⟩ := (hs.later hb1).at_ (k := k) (by simpa using hkl)
                injection he with he
                injection he with e1 e2
                subst e1 e2
                exact hc k _ (ints_get hkl)
              generalize p.getD k 0 = x at *
              have hCC : Below w.heap.size w wr.drew := hb.drew
              have q1 : (0 : Int) ≤ (k : Int) := by omega
              have q2 : (k : Int) ≤ (d : Int) := by omega
              have q3 : k ≤ d := by omega
              by_cases hm : x ∈ p.take k
              · have hE4 : Hid (E = 6) := by show _ = _; rw [hE3.out, HTw.out hm]; rfl
                rw [decide_eq_true hm] at HH
                clear HN HTw hm d0
                go_wp2_with (fail)
                refine wp_region_low (hCC) (by kernel_rfl) (by kernel_rfl) ?_
                repeat (first
                  | go_big_quiet_skip
                  | (go_big_quiet_want
                     apply Exists.intro
                     refine And.intro (fun W hW => ?_) ?_
                     · (have p1 := (HD W hW).out)
                       go_simp
                       first
                         | exact rfl
                         | ((refine (HH W hW).out.mono ?_; rintro e w1 ⟨rfl, rfl⟩; exact ⟨rfl, hW⟩))
                     try go_simp
                     go_big_quiet_on))
                refine wpQuiet_nil ?_
                intro w9 hb9
                go_wp2_with (fail)
                go_ret
                exact ⟨by rw [hE4.out]; rfl, hb9⟩
              · have HO2 : Hid (onceB (p.take (k + 1)) = true) := by show _ = _; rw [HN.out, HO.out]; simp [hm]
                rw [decide_eq_false hm] at HH
                clear HN HTw hm d0
                go_wp2_with (fail)
                refine wp_region_low (hCC) (by kernel_rfl) (by kernel_rfl) ?_
                repeat (first
                  | go_big_quiet_skip
                  | (go_big_quiet_want
                     apply Exists.intro
                     refine And.intro (fun W hW => ?_) ?_
                     · (have p1 := (HD W hW).out)
                       go_simp
                       first
                         | exact rfl
                         | ((refine (HH W hW).out.mono ?_; rintro e w1 ⟨rfl, rfl⟩; exact ⟨rfl, hW⟩))
                     try go_simp
                     go_big_quiet_on))
                refine wpQuiet_nil ?_
                intro w9 hb9
                go_wp2_with (fail)
                go_roundg gi
                case rel => exact ⟨k + 1, by have h := HK.out; show _ = _; omega, by go_num, HO2, hb9⟩
                case measure => omega
        · have hkl : k < p.length := by have h := HK.out; omega
          have hkl' : (k : Int) < (p.length : Int) := by omega
          obtain ⟨b, o, rfl, hbl, hc⟩ := (hs.later hb).at_ (k := k) (by simpa using hkl)
          have d0 := hc k _ (ints_get hkl)
          clear hc
          have HN := Lib.hid (all_snoc (f := zoneOk Z) hkl (0 : Int))
          have HF := Lib.hid (fun h => all_not (f := zoneOk Z) hkl (0 : Int) h)
          generalize p.getD k 0 = x at *
          have HX : Hid (zoneOk Z x = (decide (0 ≤ x) && decide (x < Z))) := rfl
          by_cases q1 : x < 0
          · have HE3 : Hid (E = 1) := by show _ = _; rw [hE2.out, HF.out (by rw [HX.out]; simp; omega)]; rfl
            have qd : decide (x < 0) = true := by simpa using q1
            clear HN HF HX
            go_wp2_with (fail)
            go_quiet (fail)
            go_wp2_with (fail)
            go_ret
            exact ⟨by rw [HE3.out]; rfl, below_drewN hb _⟩
          · have qd : decide (x < 0) = false := by simpa using q1
            by_cases q2 : Z ≤ x
            · have HE3 : Hid (E = 1) := by show _ = _; rw [hE2.out, HF.out (by rw [HX.out]; simp; omega)]; rfl
              clear HN HF HX
              go_wp2_with (fail)
              go_quiet (fail)
              go_wp2_with (fail)
              go_ret
              exact ⟨by rw [HE3.out]; rfl, below_drewN hb _⟩
            · have HO2 : Hid ((p.take (k + 1)).all (zoneOk Z) = true) := by show _ = _; rw [HN.out, HO.out, HX.out]; simp; omega
              clear HN HF HX
              go_wp2_with (fail)
              go_quiet (fail)
              go_wp2_with (fail)
              go_roundg gi
              case rel => exact ⟨k + 1, by have h := HK.out; show _ = _; omega, by go_num, xr.drewN _, HO2, below_drewN hb _⟩
              case measure => omega
    · have hE2 : Hid (E = 3) := by show _ = _; rw [hE.out, if_pos rfl, if_neg h4]
      have h4' : (4 : Int) < (p.length : Int) := by omega
      clear hE HT
      go_enter Try.func25, Try.ntmps25
      obtain ⟨c0, c1, _⟩ := x0.two
      go_wp2_with (fail)
      refine HV.out.mono ?_
      rintro e w1 ⟨rfl, hb1⟩
      go_wp2_with (fail)
      go_ret
      exact ⟨by rw [hE2.out]; rfl, bl_call hb0 hb1⟩
  · have hE2 : Hid (E = te) := by show _ = _; rw [hE.out, if_neg ht]
    clear hE HT
    go_enter Try.func25, Try.ntmps25
    obtain ⟨c0, c1, _⟩ := x0.two
    go_wp2_with (fail)
    refine HV.out.mono ?_
    rintro e w1 ⟨rfl, hb1⟩
    go_wp2_with (fail)
    go_ret
    exact ⟨by rw [hE2.out]; rfl, bl_call hb0 hb1⟩
end Go.Proofs.Ytjgpfnnokdcgoaa
