/- Until when the width is small: package drift's. -/
import Derived.Test.YtbbhaongakmhpaaWid
namespace Go.Proofs.Ytbbhaongakmhpaa
open Go.RowKit

def untE (l : List T3) (r x : Int) : Int := if ratE l r = 0 then (if inB x 0 100000 = true then 0 else 1) else ratE l r
def untG (l : List T3) (r x : Int) : Int × Bool := if untE l r x = 0 then untL l r x else (0, false)
theorem untE_ok {l : List T3} {r x : Int} : untE l r x = 0 ↔ (Ok l ∧ 0 ≤ r ∧ r ≤ 9) ∧ 0 ≤ x ∧ x ≤ 100000 := by
  unfold untE
  by_cases h : ratE l r = 0
  · rw [if_pos h, ← ratE_ok]
    by_cases h2 : inB x 0 100000 = true
    · rw [if_pos h2]; exact ⟨fun _ => ⟨h, inB_z.1 h2⟩, fun _ => rfl⟩
    · rw [if_neg h2]; exact ⟨fun x => (by cases x), fun x => absurd (inB_z.2 x.2) h2⟩
  · rw [if_neg h, ← ratE_ok]; exact ⟨fun x => absurd x h, fun x => absurd x.1 h⟩
theorem unt_no {l : List T3} {r x : Int} (h : agreeB l r = false) : untL l r x = (0, false) := by unfold untL; rw [if_neg (by simp [h])]
theorem unt_wide {l : List T3} {r x : Int} (h : ¬ widL l r (lastT l) ≤ x) : untL l r x = (0, false) := by unfold untL; rw [if_neg (by simp [h])]
theorem unt_yes {l : List T3} {r x : Int} (h : agreeB l r = true) (h2 : widL l r (lastT l) ≤ x) : untL l r x = (whF l r x (2000 - lastT l).toNat (lastT l), true) := if_pos ⟨h, h2⟩
theorem wh_go {l : List T3} {r x : Int} {g : Nat} {t : Int} {y : Int × Bool} (h : y = (whF l r x (g + 1) t, true)) :
    (widL l r (t + 1) ≤ x → y = (whF l r x g (t + 1), true)) ∧ (¬ widL l r (t + 1) ≤ x → y = (t, true)) := by
  unfold whF at h
  exact ⟨fun h1 => by rw [if_pos h1] at h; exact h, fun h1 => by rw [if_neg h1] at h; exact h⟩
set_option maxRecDepth 100000 in
set_option maxHeartbeats 4000000 in
theorem Until_c (A : Option Addr) (l : List T3) (cap : Nat) (r x : Int) (w : World) (hlen : l.length ≤ 1000) (hr : Rd w A (cellsT l)) :
    Calls Try.prog 41 #[.slice A l.length cap, .int .i64 r, .int .i64 x] w fun e w' => e = .returned (.tuple #[.int .i64 (untG l r x).1, .bool (untG l r x).2, .int .i64 (untE l r x)]) ∧ Below w.heap.size w w' := by
  have HV := Lib.hid (validateBy_c A l cap r w hlen hr)
  by_cases hv : ratE l r = 0
  · rw [hv] at HV
    by_cases hx0 : x < 0
    · have hE : untE l r x = 1 := by unfold untE; rw [if_pos hv, if_neg]; rw [inB_z]; omega
      have hG : untG l r x = (0, false) := by unfold untG; rw [if_neg (by rw [hE]; decide)]
      rw [hE, hG]
      clear hE hG hv
      go_enter Try.func41, Try.ntmps41
      go_wp2_with (go_at_call 55; refine HV.out.mono ?_; rintro e w1 ⟨rfl, hb1⟩)
      go_ret3
      exact ⟨rfl, hb1⟩
    · by_cases hx1 : 100000 < x
      · have hE : untE l r x = 1 := by unfold untE; rw [if_pos hv, if_neg]; rw [inB_z]; omega
        have hG : untG l r x = (0, false) := by unfold untG; rw [if_neg (by rw [hE]; decide)]
        rw [hE, hG]
        clear hE hG hv
        go_enter Try.func41, Try.ntmps41
        go_wp2_with (go_at_call 55; refine HV.out.mono ?_; rintro e w1 ⟨rfl, hb1⟩)
        go_ret3
        exact ⟨rfl, hb1⟩
      · have hE : untE l r x = 0 := by unfold untE; rw [if_pos hv, if_pos]; rw [inB_z]; omega
        have hG : untG l r x = untL l r x := by unfold untG; rw [if_pos hE]
        obtain ⟨ho, h0, h9⟩ := ratE_ok.1 hv
        have HA := fun w' h => Lib.hid (agree_c A l cap r w' hlen (ho.fit h0 h9) (hr.later (w' := w') h))
        have HB := Lib.hid (fun t w' (h : Below w.heap.size w w') (ht : 0 ≤ t) (ht2 : t ≤ 2000) => widthAt_c A l cap r t w' ho h0 h9 ht ht2 (hr.later (w' := w') h))
        obtain ⟨l0, l1⟩ := last_le ho
        have hne := ho.ne
        have hk : l.length - 1 < l.length := by omega
        obtain ⟨b, o, rfl, hcl⟩ := hr.tris hk
        have HCT : Hid (∀ w1, Below w.heap.size w w1 → w1.cell? ⟨b, o + (l.length - 1) * 3, none⟩ = some (.int .i64 (lastT l))) := fun w1 h => (hcl w1 h).1
        rw [hE, hG]
        have e1 : (l.length : Int) - 1 = ((l.length - 1 : Nat) : Int) := by omega
        have e2 : IntKind.i64.wrap ((l.length - 1 : Nat) : Int) = ((l.length - 1 : Nat) : Int) := by rw [IntWalk.i64_left]; exact IntWalk.wrap64_in _ ⟨by omega, by omega⟩
        have e3 : ((l.length - 1 : Nat) : Int) < (l.length : Int) := by omega
        clear hE hG hv ho hcl hne
        rcases ha : agreeB l r with _ | _
        · have HN := Lib.hid (unt_no (x := x) ha)
          rw [ha] at HA
          clear ha
          generalize untL l r x = res at *
          generalize lastT l = T at *
          go_enter Try.func41, Try.ntmps41
          go_wp2_with (fail)
          refine HV.out.mono ?_
          rintro e w1 ⟨rfl, hb1⟩
          have hc1 := HCT.out w1 hb1
          go_wp2_with (go_at_call 56; refine (HA _ hb1).out.mono ?_; rintro e w2 ⟨rfl, hb2⟩)
          go_ret3
          exact ⟨by rw [HN.out]; rfl, bl_call hb1 hb2⟩
        · rw [ha] at HA
          by_cases hw : widL l r (lastT l) ≤ x
          · have HN := Lib.hid (unt_yes ha hw)
            clear ha
            have HL : Hid (∀ t, lastT l ≤ t → t = t) := fun _ _ => rfl
            have HBT := Lib.hid (fun w' h => HB.out (lastT l) w' h l0 (by omega))
            generalize untL l r x = res at *
            generalize lastT l = T at *
            generalize hwl : widL l r T = wl at *
            clear hwl HL
            go_enter Try.func41, Try.ntmps41
            go_wp2_with (fail)
            refine HV.out.mono ?_
            rintro e w1 ⟨rfl, hb1⟩
            have hc1 := HCT.out w1 hb1
            go_wp2_with (first | (go_at_call 56; refine (HA _ hb1).out.mono ?_; rintro e w2 ⟨rfl, hb2⟩; have hb12 := bl_call hb1 hb2) | (go_at_call 74; refine (HBT.out _ hb12).mono ?_; rintro e w3 ⟨rfl, hb3⟩; have hb13 := bl_call hb12 hb3))
            clear hc1 HCT e1 e2 e3
            go_loopg [11] (2000 - T).toNat (fun gk tv wr => ∃ t : Int, tv = .int .i64 t ∧ Hid (0 ≤ t ∧ t + gk = 2000) ∧ Hid (res = (whF l r x gk t, true)) ∧ Below w.heap.size w wr)
            case atStart => exact ⟨T, rfl, ⟨l0, by omega⟩, HN, hb13⟩
            case round =>
              obtain ⟨t, rfl, HT, HR, hb⟩ := hrel
              rcases gk with _ | gi
              · have ht : t = 2000 := by have := HT.out; omega
                subst ht
                have HN2 : Hid (res = (2000, true)) := HR.out
                clear HR HT HN
                go_wp2_with (fail)
                go_ret3
                exact ⟨by rw [HN2.out]; rfl, hb⟩
              · obtain ⟨t0_, t1_⟩ := HT.out
                have ht : t < 2000 := by omega
                have e4 : IntKind.i64.wrap (t + 1) = t + 1 := by rw [IntWalk.i64_left]; exact IntWalk.wrap64_in _ ⟨by omega, by omega⟩
                have e5 : wrap64 (t + 1) = t + 1 := IntWalk.wrap64_in _ ⟨by omega, by omega⟩
                obtain ⟨H1, H2⟩ := wh_go HR.out
                replace H1 := Lib.hid H1
                replace H2 := Lib.hid H2
                have HC := Lib.hid (fun w' h => HB.out (t + 1) w' h (by omega) (by omega))
                clear t0_ t1_ HR HN
                generalize widL l r (t + 1) = wt at *
                by_cases hwt : wt ≤ x
                · have HN2 := Lib.hid (H1.out hwt)
                  clear H1 H2
                  go_wp2_with (go_at_call 74; refine (HC.out _ hb).mono ?_; rintro e w3 ⟨rfl, hb3⟩)
                  go_roundg gi
                  case rel => exact ⟨t + 1, by first | rfl | rw [e4] | rw [e5], ⟨by have := HT.out; omega, by have := HT.out; omega⟩, HN2, bl_call hb hb3⟩
                  case measure => omega
                · have HN2 := Lib.hid (H2.out hwt)
                  clear H1 H2
                  go_wp2_with (go_at_call 74; refine (HC.out _ hb).mono ?_; rintro e w3 ⟨rfl, hb3⟩)
                  go_ret3
                  exact ⟨by rw [HN2.out]; rfl, bl_call hb hb3⟩
          · have HN := Lib.hid (unt_wide (x := x) hw)
            have HBT := Lib.hid (fun w' h => HB.out (lastT l) w' h l0 (by omega))
            clear ha HB
            generalize untL l r x = res at *
            generalize lastT l = T at *
            generalize hwl : widL l r T = wl at *
            clear hwl
            go_enter Try.func41, Try.ntmps41
            go_wp2_with (fail)
            refine HV.out.mono ?_
            rintro e w1 ⟨rfl, hb1⟩
            have hc1 := HCT.out w1 hb1
            go_wp2_with (first | (go_at_call 56; refine (HA _ hb1).out.mono ?_; rintro e w2 ⟨rfl, hb2⟩; have hb12 := bl_call hb1 hb2) | (go_at_call 74; refine (HBT.out _ hb12).mono ?_; rintro e w3 ⟨rfl, hb3⟩; have hb13 := bl_call hb12 hb3))
            go_ret3
            exact ⟨by rw [HN.out]; rfl, hb13⟩
  · have hv' : (ratE l r != 0) = true := by simpa using hv
    have hE : untE l r x = ratE l r := by unfold untE; rw [if_neg hv]
    have hG : untG l r x = (0, false) := by unfold untG; rw [if_neg (by rw [hE]; exact hv)]
    rw [hE, hG]
    clear hE hG
    generalize ratE l r = v at *
    go_enter Try.func41, Try.ntmps41
    go_wp2_with (go_at_call 55; refine HV.out.mono ?_; rintro e w1 ⟨rfl, hb1⟩)
    go_ret3
    exact ⟨rfl, hb1⟩
end Go.Proofs.Ytbbhaongakmhpaa
