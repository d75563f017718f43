/- Shift and Relax: the specification's, as far as they are one. -/
import Derived.Test.YtiffgaelndajpaaRtsr
import Derived.Deep.RegionHeld3
import Derived.Deep.AppendLies
namespace Go.Proofs.Ytiffgaelndajpaa
open Go.RowKit

theorem own_far {A' : Option Addr} {k c n b : Nat} (hA : ∀ a, A' = some a → n ≤ a.block) (hb : b < n) : (Value.slice A' k c).ownBlock ≠ some b := by
  intro e
  cases A' with
  | none => simp [Value.ownBlock] at e
  | some a =>
    have := hA a rfl
    simp [Value.ownBlock] at e
    omega
set_option maxRecDepth 100000 in
set_option maxHeartbeats 4000000 in
theorem rmoved_c (A : Option Addr) (l : List T3) (c : Nat) (f b : Int) (w : World) (hf : f = 0 ∨ f = b) (hlen : l.length ≤ 1000) (hr : Rd w A (cellsT l)) :
    Calls Try.prog 74 #[.slice A l.length c, .int .i64 f, .int .i64 b] w (OutT 40 (movL f b l) (movE f b l) w) := by
  have HV := Lib.hid (rvalidate_c A l c w hlen hr)
  have HW := fun w => Lib.hid (within_c b (-60) 60 w)
  by_cases hv : validE l = 0
  · have hl := validE_ok.1 hv
    by_cases hbad : 0 < l.length ∧ inB b (-60) 60 = false
    · have hE : movE f b l = 1 := by rw [movE, if_pos hv, if_pos hbad]
      have hL : movL f b l = [] := by rw [movL, hE]; rfl
      have hn' : (0 : Int) < (l.length : Int) := by omega
      rw [hbad.2] at HW
      rw [hv] at HV
      rw [hE, hL]
      clear hE hL hv hbad
      go_enter Try.func74, Try.ntmps74
      go_wp2_with (first | (go_at_call 51; refine (HW _).out.mono ?_; rintro e w2 ⟨rfl, rfl⟩) | (go_at_call 19; refine HV.out.mono ?_; rintro e w1 ⟨rfl, hb1⟩))
      go_ret2
      exact ⟨none, 0, rfl, World.ownsRow_nil _ _ _ _, hb1⟩
    · have hE : Hid (movE f b l = validE (l.map (addJ f b))) := by show _ = _; rw [movE, if_pos hv, if_neg hbad]
      have hL : Hid (movL f b l = if validE (l.map (addJ f b)) = 0 then l.map (addJ f b) else []) := by show _ = _; rw [movL, hE.out]
      have HVM := fun B d w1 h => Lib.hid (rvalidate_c B (l.map (addJ f b)) d w1 (by simpa using hlen) h)
      have HML : Hid ((l.map (addJ f b)).length = l.length) := List.length_map _
      have HIN : Hid (0 < l.length → inB b (-60) 60 = true) := fun h => by
        cases hx : inB b (-60) 60 with
        | true => rfl
        | false => exact absurd ⟨h, hx⟩ hbad
      rw [HML.out] at HVM
      rw [hv] at HV
      clear hv hbad
      by_cases hn : 0 < l.length
      · have hn' : (0 : Int) < (l.length : Int) := by omega
        have hin := HIN.out hn
        rw [hin] at HW
        obtain ⟨b0, b1⟩ := inB_z.1 hin
        have f0 : -60 ≤ f := by omega
        have f1 : f ≤ 60 := by omega
        clear hf
        go_enter Try.func74, Try.ntmps74
        go_wp2_with (first | (go_at_call 51; refine (HW _).out.mono ?_; rintro e w2 ⟨rfl, rfl⟩) | (go_at_call 19; refine HV.out.mono ?_; rintro e w1 ⟨rfl, hb1⟩))
        go_loopg [9, 10] l.length (fun gk v' iv wr => ∃ (k : Nat) (v : Value), v = v' ∧ Hid (k + gk = l.length) ∧ iv = .int .i64 (k : Int) ∧ wr.ownsRow w.heap.size 40 3 v ((l.take k).map (addJ f b)).length (cellsT ((l.take k).map (addJ f b))) ∧ Below w.heap.size w wr)
        case atStart => exact ⟨0, _, rfl, by simp [Hid], rfl, World.ownsRow_nil _ _ _ _, hb1⟩
        case round =>
          obtain ⟨k, v, rfl, HK, rfl, hown, hb⟩ := hrel
          rcases gk with _ | gi
          · obtain rfl : k = l.length := HK.out
            rw [List.take_length, HML.out] at hown
            obtain ⟨A', c', rfl⟩ := own_form hown
            have HVX := HVM A' c' wr (own_rd hown).1
            generalize l.map (addJ f b) = M at *
            by_cases hm : validE M = 0
            · have E1 : Hid (movE f b l = 0) := by show _ = _; rw [hE.out, hm]
              have E2 : Hid (movL f b l = M) := by show _ = _; rw [hL.out, if_pos hm]
              rw [hm] at HVX
              clear hm
              go_wp2_with (fail)
              refine HVX.out.mono ?_
              rintro e w5 ⟨rfl, hb5⟩
              go_wp2_with (fail)
              go_ret2
              exact ⟨A', c', by rw [E1.out, E2.out, HML.out]; rfl, by rw [E2.out, HML.out]; exact own_call hown hb5, bl_call hb hb5⟩
            · have E2 : Hid (movL f b l = []) := by show _ = _; rw [hL.out, if_neg hm]
              have hm' : (validE M != 0) = true := by simpa using hm
              generalize validE M = v at *
              clear hm
              go_wp2_with (fail)
              refine HVX.out.mono ?_
              rintro e w5 ⟨rfl, hb5⟩
              go_wp2_with (fail)
              go_ret2
              exact ⟨none, 0, by rw [hE.out, E2.out]; rfl, by rw [E2.out]; exact World.ownsRow_nil _ _ _ _, bl_call hb hb5⟩
          · have hkl : k < l.length := by have := HK.out; omega
            have hkl' : (k : Int) < (l.length : Int) := by omega
            have hj := hl.jobs.get hkl
            have j0 := hj.f0
            have j1 := hj.fb
            have j2 := hj.b1
            obtain ⟨ba, o, rfl, _, c0, c1, c3⟩ := (hr.later hb.drew).tri hkl
            obtain ⟨A1, c1', rfl⟩ := own_form hown
            have HN := Lib.hid (map_take (g := addJ f b) hkl)
            have hfl : ((l.take k).map (addJ f b)).length ≤ 1000 := by simp; omega
            generalize l.getD k t0 = x at *
            generalize (l.take k).map (addJ f b) = L at *
            obtain ⟨x0, x1, x2⟩ := x
            simp only [] at c0 c1 c3 j0 j1 j2
            have HX : Hid ((l.take (k + 1)).map (addJ f b) = L ++ [(x0 + f, x1 + b, x2)]) := HN.out
            have howd : wr.drew.ownsRow w.heap.size 40 3 (.slice A1 L.length c1') L.length (cellsT L) := own_call hown (Below.refl _ _).drew
            obtain ⟨A3, c4, W3, E3, ho3, hb3, _⟩ := append_three w.heap.size 22 40 job_info Try.underlying22 wr.drew _ L (x0 + f, x1 + b, x2) howd (by omega) hb.drew.size
            have q1 : IntKind.i64.wrap (x1 + b) = x1 + b := IntWalk.i64_in _ ⟨by omega, by omega⟩
            have q0 : IntKind.i64.wrap (x0 + f) = x0 + f := IntWalk.i64_in _ ⟨by omega, by omega⟩
            have HE3 : Hid (∀ ty, (Builtin.append_ #[22, 22] ty #[.slice A1 L.length c1', .slice (some ⟨wr.heap.size, 0, none⟩) 1 1]).run Try.prog (wr.alloc (.cells #[.int .i64 (IntKind.i64.wrap (x0 + f)), .int .i64 (IntKind.i64.wrap (x1 + b)), .int .i64 x2] 40)).drew = .ok (.slice A3 (L.length + 1) c4) W3) := fun ty => by
              rw [q1, q0]; exact E3 ty
            have hb4 := hb.drew.trans hb3
            clear E3 hj HN hown howd q1 q0
            go_wp2_with (fail)
            go_region_law (refine step_append_run rfl (.tmp 31) (.tmp 52) 22 rfl (.slice A1 L.length c1') (.slice (some ⟨wr.heap.size, 0, none⟩) 1 1) (.slice A3 (L.length + 1) c4) W3 (by first | rfl | simp [Act.eval, Act.put]) (by first | rfl | simp [Act.eval, Act.put]) HE3.out ?_)
            all_goals
              go_wp2_with (fail)
              go_roundg gi
              case rel => exact ⟨k + 1, _, rfl, by have := HK.out; show _ = _; omega, by go_num, by rw [HX.out]; exact ho3, hb4⟩
              case measure => omega
      · have hn' : ¬ (0 : Int) < (l.length : Int) := by omega
        clear hf
        go_enter Try.func74, Try.ntmps74
        go_wp2_with (first | (go_at_call 51; refine (HW _).out.mono ?_; rintro e w2 ⟨rfl, rfl⟩) | (go_at_call 19; refine HV.out.mono ?_; rintro e w1 ⟨rfl, hb1⟩))
        go_loopg [9, 10] l.length (fun gk v' iv wr => ∃ (k : Nat) (v : Value), v = v' ∧ Hid (k + gk = l.length) ∧ iv = .int .i64 (k : Int) ∧ wr.ownsRow w.heap.size 40 3 v ((l.take k).map (addJ f b)).length (cellsT ((l.take k).map (addJ f b))) ∧ Below w.heap.size w wr)
        case atStart => exact ⟨0, _, rfl, by simp [Hid], rfl, World.ownsRow_nil _ _ _ _, hb1⟩
        case round =>
          obtain ⟨k, v, rfl, HK, rfl, hown, hb⟩ := hrel
          rcases gk with _ | gi
          · obtain rfl : k = l.length := HK.out
            rw [List.take_length, HML.out] at hown
            obtain ⟨A', c', rfl⟩ := own_form hown
            have HVX := HVM A' c' wr (own_rd hown).1
            generalize l.map (addJ f b) = M at *
            by_cases hm : validE M = 0
            · have E1 : Hid (movE f b l = 0) := by show _ = _; rw [hE.out, hm]
              have E2 : Hid (movL f b l = M) := by show _ = _; rw [hL.out, if_pos hm]
              rw [hm] at HVX
              clear hm
              go_wp2_with (fail)
              refine HVX.out.mono ?_
              rintro e w5 ⟨rfl, hb5⟩
              go_wp2_with (fail)
              go_ret2
              exact ⟨A', c', by rw [E1.out, E2.out, HML.out]; rfl, by rw [E2.out, HML.out]; exact own_call hown hb5, bl_call hb hb5⟩
            · have E2 : Hid (movL f b l = []) := by show _ = _; rw [hL.out, if_neg hm]
              have hm' : (validE M != 0) = true := by simpa using hm
              generalize validE M = v at *
              clear hm
              go_wp2_with (fail)
              refine HVX.out.mono ?_
              rintro e w5 ⟨rfl, hb5⟩
              go_wp2_with (fail)
              go_ret2
              exact ⟨none, 0, by rw [hE.out, E2.out]; rfl, by rw [E2.out]; exact World.ownsRow_nil _ _ _ _, bl_call hb hb5⟩
          · exfalso
            have := HK.out
            omega
  · have hE : movE f b l = validE l := by rw [movE, if_neg hv]
    have hL : movL f b l = [] := by rw [movL, hE, if_neg hv]
    have hv' : (validE l != 0) = true := by simpa using hv
    rw [hE, hL]
    clear hE hL
    generalize validE l = ev at *
    go_enter Try.func74, Try.ntmps74
    go_wp2_with (first | (go_at_call 51; refine (HW _).out.mono ?_; rintro e w2 ⟨rfl, rfl⟩) | (go_at_call 19; refine HV.out.mono ?_; rintro e w1 ⟨rfl, hb1⟩))
    go_ret2
    exact ⟨none, 0, rfl, World.ownsRow_nil _ _ _ _, hb1⟩
end Go.Proofs.Ytiffgaelndajpaa
