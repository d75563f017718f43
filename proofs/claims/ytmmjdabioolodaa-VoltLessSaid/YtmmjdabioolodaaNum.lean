/- All voltages one after another: package volt's iterator. -/
import Derived.Test.YtmmjdabioolodaaFld
import Derived.Sort.LoopGhostIn
namespace Go.Proofs.Ytmmjdabioolodaa
open Go.RowKit Go.Shelf
attribute [local go_sem] Oper.semAt_some

theorem quo_w (q : Nat) (h : q ≤ 343) : IntKind.i64.wrap ((q : Int).tdiv 7) = ((q / 7 : Nat) : Int) := by
  have e : (q : Int).tdiv 7 = ((q / 7 : Nat) : Int) := by rw [Int.tdiv_eq_ediv_of_nonneg (by omega)]; omega
  rw [e, IntWalk.i64_left]
  exact IntWalk.wrap64_in _ ⟨by omega, by omega⟩
theorem rem_w (q : Nat) (h : q ≤ 343) : IntKind.i64.wrap ((q : Int).tmod 7) = ((q % 7 : Nat) : Int) := by
  have e : (q : Int).tmod 7 = ((q % 7 : Nat) : Int) := by rw [Int.tmod_eq_emod_of_nonneg (by omega)]; omega
  rw [e, IntWalk.i64_left]
  exact IntWalk.wrap64_in _ ⟨by omega, by omega⟩
theorem drop_set (xs : List Int) (m : Nat) (x : Int) (h : m < xs.length) : (xs.set m x).drop m = x :: xs.drop (m + 1) := by
  rw [List.drop_eq_getElem_cons (by simpa using h)]
  simp [List.drop_set_of_lt]
set_option maxRecDepth 100000 in
set_option maxHeartbeats 1000000 in
theorem numbered_c (i n : Nat) (w : World) (hn : n ≤ 3) (hi : i ≤ 343) :
    Calls Try.prog 93 #[.int .i64 i, .int .i64 n] w fun e w' => e = .returned (.slice (some ⟨w.heap.size, 0, none⟩) n n) ∧ Row w' w.heap.size (vAt n i) ∧ Below w.heap.size w w' := by
  obtain ⟨cs, hmk, hcs⟩ := make_ints n (by omega) w
  have hR0 : Row (w.alloc (.cells cs 3)) w.heap.size (List.replicate n 0) := by rw [hcs]; exact Bx.new w _ _
  have hbl : Below w.heap.size w (w.alloc (.cells cs 3)) := bl_alloc (Below.refl _ _) _
  clear hcs
  go_enter Try.func93, Try.ntmps93
  go_wp2_with (fail)
  generalize w.alloc (.cells cs 3) = w0 at *
  go_loopg [0, 6] n (fun gk qv iv wr => ∃ (m q : Nat) (xs : List Int), Hid (m = gk) ∧ m ≤ n ∧ q ≤ 343 ∧ qv = .int .i64 (q : Int) ∧ iv = .int .i64 ((m : Int) - 1) ∧ Hid (vAt n i = vAt m q ++ xs.drop m) ∧ xs.length = n ∧ Row wr w.heap.size xs ∧ Below w.heap.size w wr)
  case atStart => exact ⟨n, i, _, rfl, Nat.le_refl _, hi, rfl, rfl, by simp [Hid], by simp, hR0, hbl⟩
  case round =>
    clear hR0 hbl hmk
    obtain ⟨m, q, xs, HK, hm, hq, rfl, rfl, HV, hxl, hR, hb⟩ := hrel
    rcases gk with _ | gi
    · obtain rfl : m = 0 := HK.out
      go_wp2_with (fail)
      go_ret
      refine ⟨rfl, ?_, hb⟩
      rw [HV.out]
      exact hR
    · obtain rfl : m = gi + 1 := HK.out
      have e1 : ((gi + 1 : Nat) : Int) - 1 = (gi : Int) := by omega
      have hge : (0 : Int) ≤ (gi : Int) := by omega
      have hlt : (gi : Int) < (n : Int) := by omega
      have c1 := hR.get (k := gi) (by omega)
      have c2 := hR.free gi
      have q1 := quo_w q hq
      have q2 := rem_w q hq
      have q3 : wrap64 (((q % 7 : Nat) : Int) - 3) = ((q % 7 : Nat) : Int) - 3 := IntWalk.wrap64_in _ ⟨by omega, by omega⟩
      have hset := hR.set gi (((q % 7 : Nat) : Int) - 3)
      have hbs := bl_set hb (g := w.heap.size) (i := gi) (Nat.le_refl _) (.int .i64 (((q % 7 : Nat) : Int) - 3))
      have HV2 : Hid (vAt n i = vAt gi (q / 7) ++ (xs.set gi (((q % 7 : Nat) : Int) - 3)).drop gi) := by
        show _ = _
        rw [HV.out, drop_set _ _ _ (by omega), vAt, List.append_assoc]
        congr 2
        all_goals (show _ = _; rw [Int.add_comm])
      have hl2 : (xs.set gi (((q % 7 : Nat) : Int) - 3)).length = n := by simpa using hxl
      have hq7 : q / 7 ≤ 343 := by omega
      rw [e1]
      go_wp2_with (fail)
      go_roundg gi
      case rel => exact ⟨gi, q / 7, _, rfl, by omega, hq7, rfl, rfl, HV2, hl2, hset, hbs⟩
      case measure => omega
theorem voltages_c (n : Int) (w : World) : Calls Try.prog 70 #[.int .i64 n] w fun e w' => e = .returned (.func (.func 92) #[] #[.pointer (some ⟨w.heap.size, 0, none⟩)]) ∧ w.alloc (.cells #[.int .i64 n] 3) = w' := by
  go_enter Try.func70, Try.ntmps70
  go_wp2
  go_ret
  exact ⟨rfl, rfl⟩
/-- Voltages, handed to yield: a row of their own beyond the iterator's blocks. -/
def EncV (b : Nat) (x : List Int) (vs : Array Value) (W : World) : Prop := ∃ A c, vs = #[.slice A x.length c] ∧ W.ownsRow b 3 1 (.slice A x.length c) x.length (ints x)
set_option maxRecDepth 100000 in
set_option maxHeartbeats 2000000 in
theorem voltages_iter (w : World) (n : Nat) (hn : n ≤ 3) (Bn : Nat) (K : Nat → Prop) (hBn : Bn < w.heap.size) (hcn : w.cell? ⟨Bn, 0, none⟩ = some (.int .i64 n)) (hK : K Bn) :
    Iter Try.prog 92 #[.pointer (some ⟨Bn, 0, none⟩)] EncV (voltsL n) K w := by
  intro n' l J Jx W hW hJ hJx hY h0
  have hcW := (hW.cell (p := ⟨Bn, 0, none⟩) hBn).trans hcn
  have hBW : Bn < W.heap.size := Nat.lt_of_lt_of_le hBn hW.size
  have hwW := hW.size
  clear hcn hBn
  have hpow := pow_le hn
  refine callsIn_of_wp Try.func92 rfl trivial ?_ rfl
  simp only [Try.ntmps92, List.size_toArray, List.length_cons, List.length_nil, Nat.reduceAdd, Nat.reduceSub, Array.replicate_succ, Array.replicate_zero, List.push_toArray, List.append_toArray, List.nil_append, List.cons_append]
  have HJ0 := h0 W.heap.size W (Below.refl _ _) (Nat.le_refl _) (Nat.le_refl _)
  clear h0
  obtain ⟨pw, hpw⟩ : ∃ f : Nat → Nat, ∀ k, f k = 7 ^ k := ⟨_, fun _ => rfl⟩
  have hp0 : pw 0 = 1 := by rw [hpw]
  have HPW := Lib.hid hpw
  clear hpw
  gi_wp2_with (fail)
  gi_loopg [3, 6] n (fun gk cv iv wr => ∃ k : Nat, Hid (k + gk = n) ∧ cv = .int .i64 ((pw k : Nat) : Int) ∧ iv = .int .i64 (k : Int) ∧ W = wr)
  case atStart => exact ⟨0, by simp [Hid], by rw [hp0]; rfl, rfl, rfl⟩
  case round =>
    clear hp0
    obtain ⟨k, HK, rfl, rfl, hWr⟩ := hrel
    subst hWr
    rcases gk with _ | gi
    case succ =>
      have hk : k < n := by have := HK.out; omega
      have hk' : (k : Int) < (n : Int) := by omega
      have hp : pw k ≤ 343 := by rw [HPW.out]; exact pow_le (by omega)
      have e1 : ((pw k : Nat) : Int) * 7 = ((pw (k + 1) : Nat) : Int) := by rw [HPW.out, HPW.out, Nat.pow_succ]; push_cast; rfl
      have E1 := Lib.hid e1
      clear e1
      generalize hp1 : pw (k + 1) = p1 at *
      generalize pw k = p at *
      have e2 : wrap64 ((p : Int) * 7) = (p : Int) * 7 := IntWalk.wrap64_in _ ⟨by omega, by omega⟩
      gi_wp2_with (fail)
      gi_roundg gi
      case measure => omega
      case rel => exact ⟨k + 1, by have := HK.out; show _ = _; omega, by rw [hp1, ← E1.out], by go_num, rfl⟩
    case zero =>
      obtain rfl : k = n := HK.out
      have HA : Hid (voltsL k = voltsTo k (7 ^ k)) := rfl
      have HPRE := Lib.hid (volts_pre k)
      have HOF := Lib.hid (volts_of k)
      have HS := Lib.hid (voltsTo_succ k)
      have hpk := HPW.out k
      rw [← hpk] at HA HPRE HOF hpow
      clear hpk HPW
      generalize pw k = N at *
      gi_wp2_with (fail)
      gi_loopg [12] N (fun gk iv wr => ∃ j : Nat, Hid (j + gk = N) ∧ iv = .int .i64 (j : Int) ∧ J W.heap.size (voltsTo k j) wr ∧ wr.cell? ⟨Bn, 0, none⟩ = some (.int .i64 k) ∧ W.heap.size ≤ wr.heap.size)
      case atStart => exact ⟨0, by simp [Hid], rfl, HJ0, hcW, Nat.le_refl _⟩
      case round =>
        clear HJ0 hcW
        obtain ⟨j, HJ, rfl, hj, hc, hs⟩ := hrel
        rcases gk with _ | gj
        · obtain rfl : j = N := HJ.out
          gi_wp2_with (fail)
          first | go_end0 | refine bodyPost_ret (results_none rfl _ _ _) rfl ?_
          exact ⟨⟨_, rfl⟩, W.heap.size, hs, .inl (by rw [HA.out]; exact hj)⟩
        · have hjN : j < N := by have := HJ.out; omega
          have hjN' : (j : Int) < (N : Int) := by omega
          have HC := Lib.hid (numbered_c j k wr hn (by omega))
          have HPJ := Lib.hid (HPRE.out j hjN)
          have HOJ := Lib.hid (HOF.out (j + 1) (by omega))
          have HSJ := Lib.hid (HS.out j)
          have hvl := vAt_len k j
          generalize vAt k j = x at HC HPJ HSJ hvl
          gi_wp2_with (fail)
          refine ⟨trivial, wide_n _, ?_⟩
          refine (callsIn_wide.2 HC.out).mono ?_
          rintro en w4 ⟨rfl, hR4, hb4⟩
          have hj4 := hJ _ _ _ _ hj (Mod.of_call hb4)
          have hs4 : W.heap.size ≤ w4.heap.size := Nat.le_trans hs hb4.size
          have hc4 := (hb4.cell (p := ⟨Bn, 0, none⟩) (by show Bn < wr.heap.size; omega)).trans hc
          have hown := hR4.own hvl (base := W.heap.size) (by omega) (by omega)
          obtain ⟨fn, tmps, assign, body, hy, hR⟩ := hY _ _ x #[.slice (some ⟨wr.heap.size, 0, none⟩) k k] w4 hj4 hs4 HPJ.out ⟨some ⟨wr.heap.size, 0, none⟩, k, by rw [hvl], by rw [hvl]; exact hown⟩
          rw [← HSJ.out] at hR
          gi_wp2_with (fail)
          refine ⟨wide_n _, ?_⟩
          refine hR.mono ?_
          rintro en W3 ⟨hm3, ⟨rfl, hJ3⟩ | ⟨rfl, hJx3⟩⟩
          case inr =>
            gi_wp2_with (fail)
            first | go_end0 | refine bodyPost_ret (results_none rfl _ _ _) rfl ?_
            exact ⟨⟨_, rfl⟩, W.heap.size, Nat.le_trans hs4 hm3.size, .inr ⟨_, HOJ.out, hJx3⟩⟩
          clear hy hR
          have hc5 := (hm3.cell (p := ⟨Bn, 0, none⟩) (by show Bn < w4.heap.size; omega) (fun h => h.1 hK)).trans hc4
          gi_wp2_with (fail)
          gi_roundg gj
          case measure => omega
          case rel => exact ⟨j + 1, by have := HJ.out; show _ = _; omega, by go_num, hJ3, hc5, Nat.le_trans hs4 hm3.size⟩
end Go.Proofs.Ytmmjdabioolodaa
