/- A track: package drift's. -/
import Derived.Test.YtbbhaongakmhpaaUnt
import Derived.Test.YtbbhaongakmhpaaRowR
namespace Go.Proofs.Ytbbhaongakmhpaa
open Go.RowKit

set_option maxHeartbeats 1000000 in
theorem timesOf_c (A : Option Addr) (l : List T3) (cap : Nat) (w : World) (hl : Ok l) (hr : Rd w A (cellsT l)) :
    Calls Try.prog 77 #[.slice A l.length cap] w fun e w' => e = .returned (.int .i64 (timesI l)) ∧ Below w.heap.size w w' := by
  have hne := hl.ne
  have hlen := hl.len
  have hk : l.length - 1 < l.length := by omega
  obtain ⟨b, o, rfl, hbl, ⟨c0_, -, -⟩, d0_, -, -⟩ := hr.tri2 hk hne
  have hp := times_pos hl
  have hT : Hid (timesI l = tm l (l.length - 1) - tm l 0 + 1) := rfl
  have a1 := hl.t0 0 hne
  have a2 := hl.t1 0 hne
  have a3 := hl.t0 _ hk
  have a4 := hl.t1 _ hk
  have c0 : w.cell? ⟨b, o + (l.length - 1) * 3, none⟩ = some (.int .i64 (tm l (l.length - 1))) := c0_
  have d0 : w.cell? ⟨b, o, none⟩ = some (.int .i64 (tm l 0)) := by rw [Nat.zero_mul, Nat.add_zero] at d0_; exact d0_
  have HCL : Hid (∀ w1, Below w.heap.size w w1 → w1.cell? ⟨b, o + (l.length - 1) * 3, none⟩ = some (.int .i64 (tm l (l.length - 1))) ∧ w1.cell? ⟨b, o, none⟩ = some (.int .i64 (tm l 0))) := fun w1 hw => by
    have hh : ∀ j, w1.cell? ⟨b, j, none⟩ = w.cell? ⟨b, j, none⟩ := fun j => hw.cell (p := ⟨b, j, none⟩) hbl
    exact ⟨by rw [hh]; exact c0, by rw [hh]; exact d0⟩
  have e1 : (l.length : Int) - 1 = ((l.length - 1 : Nat) : Int) := by omega
  have e2 : IntKind.i64.wrap ((l.length - 1 : Nat) : Int) = ((l.length - 1 : Nat) : Int) := by rw [IntWalk.i64_left]; exact IntWalk.wrap64_in _ ⟨by omega, by omega⟩
  have e3 : ((l.length - 1 : Nat) : Int) < (l.length : Int) := by omega
  have h0' : (0 : Int) < (l.length : Int) := by omega
  have hnn : ¬ l = [] := by rintro rfl; simp at hne
  clear c0_ d0_ c0 d0 hl
  generalize timesI l = res at *
  generalize tm l (l.length - 1) = T1 at *
  generalize tm l 0 = T0 at *
  have s1 : IntKind.i64.wrap (T1 - T0) = T1 - T0 := by rw [IntWalk.i64_left]; exact IntWalk.wrap64_in _ ⟨by omega, by omega⟩
  have s2 : IntKind.i64.wrap (T1 - T0 + 1) = T1 - T0 + 1 := by rw [IntWalk.i64_left]; exact IntWalk.wrap64_in _ ⟨by omega, by omega⟩
  have hbW : Below w.heap.size w w.drew := (Below.refl _ _).drew
  go_enter Try.func77, Try.ntmps77
  go_wp2_with (fail)
  refine wp_region_low (hbW) (by kernel_rfl) (by kernel_rfl) ?_
  repeat (first
    | go_big_quiet_skip
    | (go_big_quiet_want
       apply Exists.intro
       refine And.intro (fun W hW => ?_) ?_
       · (obtain ⟨z0, z1⟩ := HCL.out W hW)
         go_simp
         first
           | exact rfl
           | (fail)
       try go_simp
       go_big_quiet_on))
  refine wpQuiet_nil ?_
  intro w9 hb9
  go_wp2_with (fail)
  go_ret
  exact ⟨ret_i (by rw [hT.out]), hb9⟩

/-- A new list of numbers, whether it is one, and an error. -/
def OutIB (l : List Int) (b : Bool) (x : Int) (w : World) (e : Ending) (w' : World) : Prop :=
  ∃ A' c', e = .returned (.tuple #[.slice A' l.length c', .bool b, .int .i64 x]) ∧ w'.ownsRow w.heap.size 3 1 (.slice A' l.length c') l.length (ints l) ∧ Below w.heap.size w w'
def trkG (l : List T3) (r : Int) : List Int := if agrG l r = true then trackL l r else []
def fillI (L : List Int) (n k : Nat) : List Int := L.take k ++ List.replicate (n - k) 0
theorem fillI_len {L : List Int} {n k : Nat} (hL : L.length = n) (hk : k ≤ n) : (fillI L n k).length = n := by simp only [fillI, List.length_append, List.length_take, List.length_replicate, hL]; omega
theorem fillI_zero {L : List Int} (n : Nat) : fillI L n 0 = List.replicate n 0 := by simp [fillI]
theorem fillI_all {L : List Int} {n : Nat} (hL : L.length = n) : fillI L n n = L := by subst hL; simp [fillI]
theorem fillI_set {L : List Int} {n k : Nat} (hL : L.length = n) (hk : k < n) : (fillI L n k).set k (L.getD k 0) = fillI L n (k + 1) := by
  subst hL
  unfold fillI
  rw [show L.length - k = (L.length - (k + 1)) + 1 by omega, List.replicate_succ, List.set_append_right _ _ (by rw [List.length_take]; exact Nat.min_le_left _ _)]
  simp only [List.length_take, Nat.min_eq_left (Nat.le_of_lt hk), Nat.sub_self, List.set_cons_zero]
  have e : L.getD k 0 = L[k] := by simp [hk]
  rw [e, List.take_succ_eq_append_getElem hk, List.append_assoc]
  rfl
theorem ints_set (M : List Int) (k : Nat) (x : Int) : ints (M.set k x) = (ints M).set k (.int .i64 x) := by simp [ints, List.map_set]
/-- A row of numbers of a call's own, one of them at hand. -/
theorem own_at1 {w : World} {base c k n : Nat} {T : TypeId} {A : Option Addr} {M : List Int} (h : w.ownsRow base T 1 (.slice A n c) n (ints M)) (hn : M.length = n) (hk : k < n) :
    ∃ g, A = some ⟨g, 0, none⟩ ∧ base ≤ g ∧ g < w.heap.size ∧ (∃ u, w.cell? ⟨g, k, none⟩ = some u) ∧ w.frozen? ⟨g, k, none⟩ = false ∧ ∀ x, (w.setCell ⟨g, k, none⟩ (.int .i64 x)).ownsRow base T 1 (.slice A n c) n (ints (M.set k x)) := by
  have h' := h
  rcases h'.2 with ⟨he, _⟩ | ⟨g, cap, cur, hv, hb, hg, _⟩
  · simp at he; omega
  · simp only [Value.slice.injEq] at hv
    obtain ⟨rfl, _, rfl⟩ := hv
    have hgl : g < w.heap.size := (Array.getElem?_eq_some_iff.1 hg).1
    refine ⟨g, rfl, hb, hgl, ?_, h.frozenAt _, fun x => by rw [ints_set]; exact (h.stored _ _).1⟩
    obtain ⟨b, o, he, _, hc⟩ := (own_rd h).1.at_ (k := k) (by simp; omega)
    injection he with he
    injection he with e1 e2
    subst e1 e2
    have := hc k _ (ints_get (by omega))
    rw [Nat.zero_add] at this
    exact ⟨_, this⟩
set_option maxRecDepth 100000 in
set_option maxHeartbeats 8000000 in
theorem Track_c (A : Option Addr) (l : List T3) (cap : Nat) (r : Int) (w : World) (hlen : l.length ≤ 1000) (hr : Rd w A (cellsT l)) :
    Calls Try.prog 38 #[.slice A l.length cap, .int .i64 r] w (OutIB (trkG l r) (agrG l r) (ratE l r) w) := by
  have HV := Lib.hid (validateBy_c A l cap r w hlen hr)
  by_cases hv : ratE l r = 0
  · obtain ⟨ho, h0, h9⟩ := ratE_ok.1 hv
    have HA := fun w' h => Lib.hid (agree_c A l cap r w' hlen (ho.fit h0 h9) (hr.later (w' := w') h))
    rw [agrG_yes hv, hv]
    rw [hv] at HV
    rcases ha : agreeB l r with _ | _
    · have hG : trkG l r = [] := by unfold trkG; rw [agrG_yes hv, ha]; rfl
      rw [hG]
      rw [ha] at HA
      clear hv ho h0 h9 ha hG
      go_enter Try.func38, Try.ntmps38
      go_wp2_with (first | (go_at_call 55; refine HV.out.mono ?_; rintro e w1 ⟨rfl, hb1⟩) | (go_at_call 56; refine (HA _ hb1).out.mono ?_; rintro e w2 ⟨rfl, hb2⟩))
      go_ret3
      exact ⟨none, 0, rfl, World.ownsRow_nil _ _ _ _, bl_call hb1 hb2⟩
    · have hG : trkG l r = trackL l r := by unfold trkG; rw [agrG_yes hv, ha]; rfl
      rw [hG]
      rw [ha] at HA
      have HB := Lib.hid (fun t w' (h : Below w.heap.size w w') (ht : 0 ≤ t) (ht2 : t ≤ 2000) => boundsAt_c A l cap r t w' ho.ne hlen (ho.fit h0 h9) ht ht2 (hr.later (w' := w') h))
      have HTI := fun w' h => Lib.hid (timesOf_c A l cap w' ho (hr.later (w' := w') h))
      obtain ⟨p1, p2⟩ := times_pos ho
      obtain ⟨n, hn⟩ : ∃ n : Nat, timesI l = (n : Int) := ⟨(timesI l).toNat, (Int.toNat_of_nonneg (by omega)).symm⟩
      have hTL : (trackL l r).length = n := by rw [trackL_length, hn]; rfl
      have HTL := Lib.hid hTL
      have HTG : Hid (∀ k, k < n → (trackL l r).getD k 0 = max (lowB l r (tm l 0 + (k : Int))) (-1000)) := fun k hk => trackL_get (by rw [hn]; exact hk)
      have HT0 : Hid (∀ k, k < n → 0 ≤ tm l 0 + (k : Int) ∧ tm l 0 + (k : Int) ≤ 1000) := fun k hk => by
        have a1 := ho.t0 0 ho.ne
        have a2 := ho.t1 (l.length - 1) (by have := ho.ne; omega)
        unfold timesI at hn
        omega
      have hne := ho.ne
      have h0' : (0 : Int) < (l.length : Int) := by omega
      have hnn : ¬ l = [] := by rintro rfl; simp at hne
      have hb0l := ho.t0 0 ho.ne
      have hb1l := ho.t1 0 ho.ne
      obtain ⟨b', o, rfl, hcl⟩ := hr.tris hne
      have HCL : Hid (∀ w1, Below w.heap.size w w1 → w1.cell? ⟨b', o, none⟩ = some (.int .i64 (tm l 0))) := fun w1 h => by
        have := (hcl w1 h).1
        rw [Nat.zero_mul, Nat.add_zero] at this
        exact this
      rw [hn] at HTI p1 p2
      clear hv ho h9 ha hG hn hTL hcl hne
      generalize trackL l r = TL at *
      generalize tm l 0 = T0 at *
      have HNN := Lib.hid hnn
      have HFA : Hid (fillI TL n n = TL) := fillI_all HTL.out
      have HF0 : Hid (fillI TL n 0 = List.replicate n 0) := fillI_zero _
      clear hnn
      go_enter Try.func38, Try.ntmps38
      go_wp2_with (first | (go_at_call 55; refine HV.out.mono ?_; rintro e w1 ⟨rfl, hb1⟩) | (go_at_call 56; refine (HA _ hb1).out.mono ?_; rintro e w2 ⟨rfl, hb2⟩; have hb12 := bl_call hb1 hb2))
      refine (HTI _ hb12).out.mono ?_
      rintro e w3 ⟨rfl, hb3⟩
      have hb13 := bl_call hb12 hb3
      obtain ⟨w4, hm4, ho4, hg4⟩ := made_ints n (by omega) w3
      have hb04 : Below w.heap.size w w4 := hb13.grown hg4 hb13.size (fun k e => by cases e)
      have ho4' := own_base ho4 hb13.size
      rw [← HF0.out] at ho4'
      clear hb1 hb2 hb12 hb3 hg4 ho4 HTI HA HV
      go_wp2_with (fail)
      clear hm4
      go_loopg [26] n (fun gk iv wr => ∃ k : Nat, Hid (k + gk = n) ∧ iv = .int .i64 (k : Int) ∧ wr.ownsRow w.heap.size 3 1 (.slice (some ⟨w3.heap.size, 0, none⟩) n n) n (ints (fillI TL n k)) ∧ Below w.heap.size w wr)
      case atStart => exact ⟨0, by simp [Hid], rfl, ho4', hb04⟩
      case round =>
        obtain ⟨k, HK, rfl, hown, hb⟩ := hrel
        clear ho4' hb04
        rcases gk with _ | gi
        · obtain rfl : k = n := HK.out
          rw [HFA.out] at hown
          go_wp2_with (fail)
          go_ret3
          exact ⟨_, _, by rw [HTL.out]; rfl, by rw [HTL.out]; exact hown, hb⟩
        · have hlt : k < n := by have := HK.out; omega
          have hlt' : (k : Int) < (n : Int) := by omega
          obtain ⟨q0, q1⟩ := HT0.out k hlt
          have HS := Lib.hid (fillI_set (k := k) HTL.out hlt)
          rw [HTG.out k hlt] at HS
          have hFL : (fillI TL n k).length = n := fillI_len HTL.out (by omega)
          have e4 : IntKind.i64.wrap (T0 + (k : Int)) = T0 + (k : Int) := by rw [IntWalk.i64_left]; exact IntWalk.wrap64_in _ ⟨by omega, by omega⟩
          have e5 : wrap64 (T0 + (k : Int)) = T0 + (k : Int) := IntWalk.wrap64_in _ ⟨by omega, by omega⟩
          have HC := Lib.hid (fun w' h => HB.out (T0 + (k : Int)) w' h q0 (by omega))
          generalize lowB l r (T0 + (k : Int)) = lo at *
          generalize highB l r (T0 + (k : Int)) = hi at *
          have hc0 := HCL.out wr hb
          have hnn := HNN.out
          go_wp2_with (fail)
          refine (HC.out wr hb).mono ?_
          rintro e w5 ⟨rfl, hb5⟩
          have hb05 := bl_call hb hb5
          have hoA := (own_call hown hb5).alloc (.cells #[.int .i64 lo, .int .i64 hi] 65)
          have hyA : Bx (w5.alloc (.cells #[.int .i64 lo, .int .i64 hi] 65)) w5.heap.size 65 #[.int .i64 lo, .int .i64 hi] := Bx.new _ _ _
          have hbA := bl_alloc hb05 (.cells #[.int .i64 lo, .int .i64 hi] 65)
          obtain ⟨g', hg', hgb, hgl, ⟨u, m0⟩, f0, hset⟩ := own_at1 hoA hFL hlt
          injection hg' with hg'
          injection hg' with hg'
          subst hg'
          obtain ⟨y0, y1, _, _⟩ := hyA.two
          have hoF := hset (max lo (-1000))
          rw [HS.out] at hoF
          have hbF := bl_set hbA hgb (i := k) (.int .i64 (max lo (-1000)))
          have HOF := Lib.hid hoF
          have HBF := Lib.hid hbF
          clear hoF hbF hset hoA hyA hbA hown hb hb5 hb05 hFL hc0 hnn
          go_wp2_with (fail)
          all_goals
            go_roundg gi
            case rel =>
              refine ⟨k + 1, by have := HK.out; show _ = _; omega, by go_num, ?_, ?_⟩
              · first
                  | (have h := HOF.out; rw [show max lo (-1000) = lo by omega] at h; exact h)
                  | (have h := HOF.out; rw [show max lo (-1000) = -1000 by omega] at h; exact h)
              · first
                  | (have h := HBF.out; rw [show max lo (-1000) = lo by omega] at h; exact h)
                  | (have h := HBF.out; rw [show max lo (-1000) = -1000 by omega] at h; exact h)
            case measure => omega
  · have hv' : (ratE l r != 0) = true := by simpa using hv
    have hG : trkG l r = [] := by unfold trkG; rw [agrG_no hv]; rfl
    rw [agrG_no hv, hG]
    clear hG
    generalize ratE l r = v at *
    go_enter Try.func38, Try.ntmps38
    go_wp2_with (go_at_call 55; refine HV.out.mono ?_; rintro e w1 ⟨rfl, hb1⟩)
    go_ret3
    exact ⟨none, 0, rfl, World.ownsRow_nil _ _ _ _, hb1⟩
end Go.Proofs.Ytbbhaongakmhpaa
