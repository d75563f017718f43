/- Until when the width is small: the specification's. -/
import Derived.Test.YtbbhaongakmhpaaUnt
import Derived.Test.YtbbhaongakmhpaaRbd
namespace Go.Proofs.Ytbbhaongakmhpaa
open Go.RowKit

theorem last_go {l : List T3} {r x : Int} {g : Nat} {t : Int} {acc y : Int × Bool} (h : y = lastF l r x (g + 1) t acc) :
    (widL l r t ≤ x → y = lastF l r x g (t + 1) (t, true)) ∧ (¬ widL l r t ≤ x → y = lastF l r x g (t + 1) acc) := by
  unfold lastF at h
  exact ⟨fun h1 => by rw [if_pos h1] at h; exact h, fun h1 => by rw [if_neg h1] at h; exact h⟩
set_option maxRecDepth 100000 in
set_option maxHeartbeats 4000000 in
theorem rUntil_c (A : Option Addr) (l : List T3) (cap : Nat) (r x : Int) (w : World) (hlen : l.length ≤ 1000) (hr : Rd w A (cellsT l)) :
    Calls Try.prog 42 #[.slice A l.length cap, .int .i64 r, .int .i64 x] w fun e w' => e = .returned (.tuple #[.int .i64 (untG l r x).1, .bool (untG l r x).2, .int .i64 (untE l r x)]) ∧ Below w.heap.size w w' := by
  have HV := Lib.hid (rated_c A l cap r w hlen hr)
  by_cases hv : ratE l r = 0
  · rw [hv] at HV
    rcases hx : inB x 0 100000 with _ | _
    · have hE : untE l r x = 1 := by unfold untE; rw [if_pos hv, if_neg (by rw [hx]; decide)]
      have hG : untG l r x = (0, false) := by unfold untG; rw [if_neg (by rw [hE]; decide)]
      rw [hE, hG]
      clear hE hG hv
      go_enter Try.func42, Try.ntmps42
      go_wp2_with (first | (go_at_call 57; refine HV.out.mono ?_; rintro e w1 ⟨rfl, hb1⟩) | (go_at_call 62; refine (within_c _ _ _ _).mono ?_; rintro e w2 ⟨rfl, rfl⟩))
      go_ret3
      exact ⟨rfl, hb1⟩
    · have hE : untE l r x = 0 := by unfold untE; rw [if_pos hv, if_pos hx]
      have hG : untG l r x = untL l r x := by unfold untG; rw [if_pos hE]
      obtain ⟨ho, h0, h9⟩ := ratE_ok.1 hv
      have HA := fun w' h => Lib.hid (ragree_c A l cap r w' hlen (ho.fit h0 h9) (hr.later (w' := w') h))
      have HB := Lib.hid (fun t w' (h : Below w.heap.size w w') (ht : 0 ≤ t) (ht2 : t ≤ 2000) => rbounds_c A l cap r t w' ho.ne hlen (ho.fit h0 h9) ht ht2 (hr.later (w' := w') h))
      have HW := Lib.hid (fun t (ht : 0 ≤ t) (ht2 : t ≤ 2000) => wid_small (r := r) ho h0 h9 ht ht2)
      obtain ⟨l0, l1⟩ := last_le ho
      have hne := ho.ne
      have hk : l.length - 1 < l.length := by omega
      obtain ⟨b, o, rfl, hcl⟩ := hr.tris hk
      have HCT : Hid (∀ w1, Below w.heap.size w w1 → w1.cell? ⟨b, o + (l.length - 1) * 3, none⟩ = some (.int .i64 (lastT l))) := fun w1 h => (hcl w1 h).1
      rw [hE, hG]
      have e1 : (l.length : Int) - 1 = ((l.length - 1 : Nat) : Int) := by omega
      have e2 : IntKind.i64.wrap ((l.length - 1 : Nat) : Int) = ((l.length - 1 : Nat) : Int) := by rw [IntWalk.i64_left]; exact IntWalk.wrap64_in _ ⟨by omega, by omega⟩
      have e3 : ((l.length - 1 : Nat) : Int) < (l.length : Int) := by omega
      have HUL := Lib.hid (fun ha => @untL_last l r x ho h0 ha)
      clear hE hG hv ho hcl hne
      rcases ha : agreeB l r with _ | _
      · have HN := Lib.hid (unt_no (x := x) ha)
        rw [ha] at HA
        clear ha HUL
        generalize untL l r x = res at *
        generalize lastT l = T at *
        have hT2 : T ≤ 2000 := by omega
        go_enter Try.func42, Try.ntmps42
        go_wp2_with (fail)
        refine HV.out.mono ?_
        rintro e w1 ⟨rfl, hb1⟩
        have hc1 := HCT.out w1 hb1
        go_wp2_with (go_at_call 62; refine (within_c _ _ _ _).mono ?_; rintro e w2 ⟨rfl, rfl⟩)
        go_loopg [10, 11, 12] 1 (fun _ av bv tv wr => av = .int .i64 0 ∧ bv = .bool false ∧ tv = .int .i64 T ∧ wr = w1)
        case atStart => exact ⟨rfl, rfl, rfl, rfl⟩
        case round =>
          obtain ⟨rfl, rfl, rfl, rfl⟩ := hrel
          go_wp2_with (go_at_call 58; refine (HA _ hb1).out.mono ?_; rintro e w2 ⟨rfl, hb2⟩)
          go_ret3
          exact ⟨by rw [HN.out]; rfl, bl_call hb1 hb2⟩
      · have HU : Hid (untL l r x = lastF l r x (2001 - lastT l).toNat (lastT l) (0, false)) := (HUL.out ha).symm
        rw [ha] at HA
        clear ha HUL
        generalize untL l r x = res at *
        generalize lastT l = T at *
        go_enter Try.func42, Try.ntmps42
        go_wp2_with (fail)
        refine HV.out.mono ?_
        rintro e w1 ⟨rfl, hb1⟩
        have hc1 := HCT.out w1 hb1
        go_wp2_with (go_at_call 62; refine (within_c _ _ _ _).mono ?_; rintro e w2 ⟨rfl, rfl⟩)
        clear hc1 HCT e1 e2 e3
        go_loopg [10, 11, 12] (2001 - T).toNat (fun gk av bv tv wr => ∃ (t a : Int) (b : Bool), tv = .int .i64 t ∧ av = .int .i64 a ∧ bv = .bool b ∧ Hid (0 ≤ t ∧ t + gk = 2001) ∧ Hid (res = lastF l r x gk t (a, b)) ∧ Below w.heap.size w wr)
        case atStart => exact ⟨T, 0, false, rfl, rfl, rfl, ⟨l0, by omega⟩, HU, hb1⟩
        case round =>
          obtain ⟨t, a, bb, rfl, rfl, rfl, HT, HR, hb⟩ := hrel
          rcases gk with _ | gi
          · have ht : t = 2001 := by have := HT.out; omega
            subst ht
            have HN2 : Hid (res = (a, bb)) := HR.out
            clear HR HT HU
            go_wp2_with (fail)
            go_ret3
            exact ⟨by rw [HN2.out]; rfl, hb⟩
          · obtain ⟨t0_, t1_⟩ := HT.out
            have ht : t ≤ 2000 := by omega
            have e4 : IntKind.i64.wrap (t + 1) = t + 1 := by rw [IntWalk.i64_left]; exact IntWalk.wrap64_in _ ⟨by omega, by omega⟩
            have e5 : wrap64 (t + 1) = t + 1 := IntWalk.wrap64_in _ ⟨by omega, by omega⟩
            obtain ⟨H1, H2⟩ := last_go HR.out
            replace H1 := Lib.hid H1
            replace H2 := Lib.hid H2
            have HC := Lib.hid (fun w' h => HB.out t w' h t0_ ht)
            have hw := HW.out t t0_ ht
            have HWL : Hid (widL l r t = highB l r t - lowB l r t) := rfl
            clear HR HU
            generalize widL l r t = wt at *
            generalize highB l r t = H at *
            generalize lowB l r t = L at *
            have hs : IntKind.i64.wrap (H - L) = H - L := by rw [IntWalk.i64_left]; exact hw
            have HT2 : Hid (0 ≤ t + 1 ∧ t + 1 + gi = 2001) := ⟨by omega, by omega⟩
            clear t0_ t1_ HT
            by_cases hwt : H - L ≤ x
            · have HN2 := Lib.hid (H1.out (by have := HWL.out; omega))
              clear H1 H2
              go_wp2_with (first | (go_at_call 58; refine (HA _ hb).out.mono ?_; rintro e w2 ⟨rfl, hb2⟩; have hb12 := bl_call hb hb2) | (go_at_call 73; refine (HC.out _ hb12).mono ?_; rintro e w3 ⟨rfl, hb3⟩; have hb13 := bl_call hb12 hb3))
              go_roundg gi
              case rel => exact ⟨t + 1, t, true, by first | rfl | rw [e4] | rw [e5], rfl, rfl, HT2, HN2, hb13⟩
              case measure => omega
            · have HN2 := Lib.hid (H2.out (by have := HWL.out; omega))
              clear H1 H2
              go_wp2_with (first | (go_at_call 58; refine (HA _ hb).out.mono ?_; rintro e w2 ⟨rfl, hb2⟩; have hb12 := bl_call hb hb2) | (go_at_call 73; refine (HC.out _ hb12).mono ?_; rintro e w3 ⟨rfl, hb3⟩; have hb13 := bl_call hb12 hb3))
              go_roundg gi
              case rel => exact ⟨t + 1, a, bb, by first | rfl | rw [e4] | rw [e5], rfl, rfl, HT2, HN2, hb13⟩
              case measure => omega
  · have hv' : (ratE l r != 0) = true := by simpa using hv
    have hE : untE l r x = ratE l r := by unfold untE; rw [if_neg hv]
    have hG : untG l r x = (0, false) := by unfold untG; rw [if_neg (by rw [hE]; exact hv)]
    rw [hE, hG]
    clear hE hG
    generalize ratE l r = v at *
    go_enter Try.func42, Try.ntmps42
    go_wp2_with (go_at_call 57; refine HV.out.mono ?_; rintro e w1 ⟨rfl, hb1⟩)
    go_ret3
    exact ⟨rfl, hb1⟩
end Go.Proofs.Ytbbhaongakmhpaa
