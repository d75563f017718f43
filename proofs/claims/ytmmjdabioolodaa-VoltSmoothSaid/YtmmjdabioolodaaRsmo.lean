/- The smallest jump of a course: the specification's contract. -/
import Derived.Test.YtmmjdabioolodaaRck
import Derived.Deep.CutRange
namespace Go.Proofs.Ytmmjdabioolodaa
open Go.RowKit

def nxTo (N M : List (List Int)) (m : Int) (t : Nat) : List (List Int) := (M.take t).filter fun v => N.any fun u => decide (jumpL u v ≤ m)
theorem nx_yes {N M : List (List Int)} {m : Int} {t j : Nat} (ht : t < M.length) (hj : j < N.length) (h : jumpL (N.getD j []) (M.getD t []) ≤ m) : nxTo N M m (t + 1) = nxTo N M m t ++ [M.getD t []] := by
  unfold nxTo
  rw [row_take_succ ht, List.filter_append, List.filter_cons_of_pos]
  · rfl
  · exact List.any_eq_true.2 ⟨N.getD j [], by simp [hj], decide_eq_true h⟩
theorem nx_no {N M : List (List Int)} {m : Int} {t : Nat} (ht : t < M.length) (h : ∀ j, j < N.length → ¬ jumpL (N.getD j []) (M.getD t []) ≤ m) : nxTo N M m (t + 1) = nxTo N M m t := by
  unfold nxTo
  rw [row_take_succ ht, List.filter_append, List.filter_cons_of_neg]
  · simp
  · intro hx
    obtain ⟨u, hu, hd⟩ := List.any_eq_true.1 hx
    obtain ⟨j, hj, rfl⟩ := List.getElem_of_mem hu
    exact h j hj (by have := of_decide_eq_true hd; simpa [hj] using this)
theorem nx_len (N M : List (List Int)) (m : Int) (t : Nat) : (nxTo N M m t).length ≤ t := by
  unfold nxTo
  exact Nat.le_trans (List.length_filter_le _ _) (by simp; omega)
theorem now_ok {g row : List (List Int)} {m : Int} : ∀ k, ∀ v ∈ nowTo g row m k, OkV v (wires g) 3
  | 0, _, hv => (mem_makers.1 hv).1
  | _ + 1, _, hv => (mem_makers.1 (List.mem_filter.1 hv).1).1
theorem get_mem {L : List (List Int)} {k : Nat} (h : k < L.length) : L.getD k [] ∈ L := by simp [h]
set_option maxRecDepth 100000 in
set_option maxHeartbeats 16000000 in
theorem rSmooth_c (A B : Option Addr) (R T : Rows) (g row : List (List Int)) (cap cap' : Nat) (w : World) (hl : Brief g) (hl' : Brief row) (hr : RT w A R g) (hs : RT w B T row) :
    Calls Try.prog 47 #[.slice A g.length cap, .slice B row.length cap'] w fun e w' => e = .returned (.tuple #[.int .i64 (smoG g row).1, .bool (smoG g row).2, .int .i64 (errB (rowB g row))]) ∧ Below w.heap.size w w' := by
  have HV := Lib.hid (rRowed_c A B R T g row cap cap' w hl hl' hr hs)
  change Hid (Calls _ _ _ _ fun e w' => e = .returned (.int .i64 (errB (rowB g row))) ∧ _) at HV
  have HFO : Hid (∀ (w' : World) (x : Int) (b : Bool), smoG g row = (x, b) → Below w.heap.size w w' → Ending.returned (.tuple #[.int .i64 x, .bool b, .int .i64 (errB (rowB g row))]) = .returned (.tuple #[.int .i64 (smoG g row).1, .bool (smoG g row).2, .int .i64 (errB (rowB g row))]) ∧ Below w.heap.size w w') := fun w' x b h1 h2 => by rw [h1]; exact ⟨rfl, h2⟩
  rcases hx : rowB g row with _ | _
  · have HG : Hid (smoG g row = (0, false)) := by show _ = _; unfold smoG; rw [hx]; rfl
    rw [hx] at HV HFO
    generalize smoG g row = res at *
    go_enter Try.func47, Try.ntmps47
    go_wp2_with (fail)
    refine HV.out.mono ?_
    rintro e w1 ⟨rfl, hb1⟩
    rw [errB_f]
    go_wp2_with (fail)
    go_ret3
    exact HFO.out _ _ _ HG.out hb1
  · have hok := rowB_iff.1 hx
    have hl5 := hok.2.len
    have hw3 := hok.1.wrs.2
    rw [hx] at HV HFO
    obtain ⟨b0, o0, rfl, _, HT⟩ := hs.all_ (by omega)
    have HT2 := Lib.hid HT
    have HM := Lib.hid fun k (hk : k < row.length) w1 (hb : Below w.heap.size w w1) => Lib.hid (meeting_c A (T k).1 R g (row.getD k []) cap (T k).2 w1 hok.1 (hr.later hb) ((hs.row k hk).later hb))
    have HMK : Hid (∀ k v, v ∈ makersL g (row.getD k []) → OkV v (wires g) 3) := fun k v hv => (mem_makers.1 hv).1
    have HML : Hid (∀ k, (makersL g (row.getD k [])).length ≤ 343) := fun k => makers_len g _ hw3
    have HN0 : Hid (∀ m, nowTo g row m 0 = makersL g (row.getD 0 [])) := fun m => rfl
    have HNS : Hid (∀ m k, nowTo g row m (k + 1) = nxTo (nowTo g row m k) (makersL g (row.getD (k + 1) [])) m (makersL g (row.getD (k + 1) [])).length) := fun m k => by
      show _ = _; unfold nxTo; rw [List.take_length]; rfl
    have HNL : Hid (∀ m k, (nowTo g row m k).length ≤ 343) := fun m k => nowTo_len g row m hw3 k
    have HNK : Hid (∀ m k v, v ∈ nowTo g row m k → OkV v (wires g) 3) := fun m k v hv => now_ok k v hv
    have HF1 : Hid (∀ m : Nat, 0 < (nowTo g row (m : Int) (row.length - 1)).length → (∀ k : Nat, k < m → (nowTo g row (k : Int) (row.length - 1)).length = 0) → smoG g row = ((m : Int), true)) := fun m h1 h2 => by
      obtain ⟨a, b⟩ := best_found (by omega) h1 h2
      unfold smoG; rw [if_pos hx, a, b]
    have HF2 : Hid ((∀ k : Nat, k < 7 → (nowTo g row (k : Int) (row.length - 1)).length = 0) → smoG g row = (0, false)) := fun h => by
      have a := best_missing (by omega) h
      unfold smoG; rw [if_pos hx, a, best_no a]
    have HJ := Lib.hid fun (u v : List Int) (A1 A2 : Option Addr) (c1 c2 : Nat) (hu : OkV u (wires g) 3) (hv : OkV v (wires g) 3) w1 (h1 : Rd w1 A1 (ints u)) (h2 : Rd w1 A2 (ints v)) => Lib.hid (rjump_c A1 A2 u v c1 c2 w1 (by rw [hu.len, hv.len]) (by rw [hu.len]; omega) (fun i => ⟨small_get hu (by decide) i, small_get hv (by decide) i⟩) h1 h2)
    have hr1 : 0 < row.length := by omega
    have hr5 : row.length ≤ 5 := by omega
    generalize smoG g row = res at *
    clear hl hl' hx hok hl5 HT hs hr
    go_enter Try.func47, Try.ntmps47
    go_wp2_with (fail)
    refine HV.out.mono ?_
    rintro e w1 ⟨rfl, hb1⟩
    rw [errB_t]
    rw [errB_t] at HFO
    go_wp2_with (fail)
    go_loopg [8] 7 (fun gk iv wr => ∃ m : Nat, Hid (m + gk = 7) ∧ iv = .int .i64 (m : Int) ∧ Hid (∀ k : Nat, k < m → (nowTo g row (k : Int) (row.length - 1)).length = 0) ∧ Below w.heap.size w wr)
    case atStart => exact ⟨0, by simp [Hid], rfl, fun k hk => absurd hk (by omega), hb1⟩
    case round =>
      clear hb1
      obtain ⟨m, HK, rfl, hno, hb⟩ := hrel
      rcases gk with _ | gi
      · obtain rfl : m = 7 := HK.out
        go_wp2_with (fail)
        go_ret3
        exact HFO.out _ _ _ (HF2.out hno.out) hb
      · have hm6 : m ≤ 6 := by have := HK.out; omega
        have hm6' : (m : Int) ≤ 6 := by omega
        have hr1' : (0 : Int) < (row.length : Int) := by omega
        have c1 := HT2.out wr hb 0 hr1
        rw [Nat.add_zero] at c1
        have HM0 := HM.out 0 hr1 wr hb
        have HN0m := Lib.hid (HN0.out m)
        generalize (row.getD 0 []).length = n0 at *
        rw [← HN0m.out] at HM0
        go_wp2_with (fail)
        refine HM0.out.mono ?_
        rintro e w2 ⟨A2, c2, hs2, rfl, hown2, htab2, hb2⟩
        have hb02 := bl_call hb hb2
        go_wp2_with (fail)
        go_loopg [9, 10] (row.length - 1) (fun gk nv iv wq => ∃ (k u : Nat) (D : Option Addr) (d : Nat) (hs' : List Value), Hid (u = k + 1) ∧ Hid (u + gk = row.length) ∧ iv = .int .i64 (u : Int) ∧ nv = .slice D (nowTo g row (m : Int) k).length d ∧ wq.ownsRow w.heap.size 23 1 (.slice D (nowTo g row (m : Int) k).length d) (nowTo g row (m : Int) k).length hs' ∧ Tab wq w.heap.size hs' (nowTo g row (m : Int) k) ∧ Below w.heap.size w wq)
        case atStart => exact ⟨0, 1, A2, c2, hs2, rfl, by show _ = _; omega, rfl, rfl, own_base hown2 hb.size, htab2.lower hb.size, hb02⟩
        case round =>
          clear hown2 htab2 hb2 hb02 HM0 c1
          obtain ⟨k, u, D, d, hs', HU, HK2, rfl, rfl, hown, htab, hb3⟩ := hrel
          rcases gk with _ | gj
          · obtain rfl : u = row.length := HK2.out
            have HKR : Hid (k = row.length - 1) := by have := HU.out; show _ = _; omega
            have HX1 := Lib.hid (HF1.out m)
            rw [← HKR.out] at HX1
            have HNX : Hid ((nowTo g row (m : Int) k).length = 0 → ∀ i : Nat, i < m + 1 → (nowTo g row (i : Int) (row.length - 1)).length = 0) := fun h i hi => by
              rcases Nat.lt_or_ge i m with h' | h'
              · exact hno.out i h'
              · rw [show i = m by omega, ← HKR.out]; exact h
            rw [← HKR.out] at hno
            generalize (nowTo g row (m : Int) k).length = n at *
            by_cases hn : 0 < n
            · have hn' : (0 : Int) < (n : Int) := by omega
              go_wp2_with (fail)
              go_ret3
              exact HFO.out _ _ _ (HX1.out hn hno.out) hb3
            · have hn' : ¬ (0 : Int) < (n : Int) := by omega
              go_wp2_with (fail)
              go_roundg gi
              case rel => exact ⟨m + 1, by have := HK.out; show _ = _; omega, by go_num, HNX.out (by omega), hb3⟩
              case measure => omega
          · have hu1 : u < row.length := by have := HK2.out; omega
            have hu1' : (u : Int) < (row.length : Int) := by omega
            have c1 := HT2.out wr hb3 u hu1
            have HMu := HM.out u hu1 wr hb3
            have HNSk := Lib.hid (HNS.out m k)
            rw [← HU.out] at HNSk
            have HMKu := Lib.hid (HMK.out u)
            have HMLu := Lib.hid (HML.out u)
            have HNKu := Lib.hid (HNK.out m k)
            have HNLu := Lib.hid (HNL.out m k)
            generalize (row.getD u []).length = n1 at *
            generalize makersL g (row.getD u []) = M at *
            have HNN : Hid (∀ t, (nxTo (nowTo g row (m : Int) k) M (m : Int) t).length ≤ t) := fun t => nx_len _ _ _ t
            have HNY : Hid (∀ t j, t < M.length → j < (nowTo g row (m : Int) k).length → jumpL ((nowTo g row (m : Int) k).getD j []) (M.getD t []) ≤ (m : Int) → nxTo (nowTo g row (m : Int) k) M (m : Int) (t + 1) = nxTo (nowTo g row (m : Int) k) M (m : Int) t ++ [M.getD t []]) := fun t j h1 h2 h3 => nx_yes h1 h2 h3
            have HNO : Hid (∀ t, t < M.length → (∀ j, j < (nowTo g row (m : Int) k).length → ¬ jumpL ((nowTo g row (m : Int) k).getD j []) (M.getD t []) ≤ (m : Int)) → nxTo (nowTo g row (m : Int) k) M (m : Int) (t + 1) = nxTo (nowTo g row (m : Int) k) M (m : Int) t) := fun t h1 h2 => nx_no h1 h2
            have HNZ : Hid (nxTo (nowTo g row (m : Int) k) M (m : Int) 0 = []) := rfl
            generalize hQ : nowTo g row (m : Int) k = N at *
            obtain ⟨S1, rfl, hrt1, hk1⟩ := htab.rt hown
            clear hown htab hQ
            go_wp2_with (fail)
            refine HMu.out.mono ?_
            rintro e w3 ⟨A3, c3, hs3, rfl, hown3, htab3, hb33⟩
            obtain ⟨S3, rfl, hrt3, hk3⟩ := htab3.rt hown3
            have hb43 := bl_call hb3 hb33
            replace hrt1 := hrt1.later hb33
            replace hk3 := fun t ht => own_base (hk3 t ht) hb3.size
            clear hown3 htab3 HMu c1
            go_wp2_with (fail)
            go_loopg [11, 13] M.length (fun gk nv iv wq => ∃ (t : Nat) (E : Option Addr) (ec : Nat) (hs4 : List Value), Hid (t + gk = M.length) ∧ iv = .int .i64 (t : Int) ∧ nv = .slice E (nxTo N M (m : Int) t).length ec ∧ wq.ownsRow w3.heap.size 23 1 (.slice E (nxTo N M (m : Int) t).length ec) (nxTo N M (m : Int) t).length hs4 ∧ Tab wq w.heap.size hs4 (nxTo N M (m : Int) t) ∧ Below w3.heap.size w3 wq)
            case atStart => exact ⟨0, none, 0, [], by simp [Hid], rfl, by rw [HNZ.out]; rfl, by rw [HNZ.out]; exact World.ownsRow_nil _ _ _ _, by rw [HNZ.out]; exact Tab.nil _ _, Below.refl _ _⟩
            case round =>
              obtain ⟨t, E, ec, hs4, HK4, rfl, rfl, hown4, htab4, hb4⟩ := hrel
              rcases gk with _ | gt
              · obtain rfl : t = M.length := HK4.out
                rw [← HNSk.out] at hown4 htab4 ⊢
                have hb04 := bl_call hb43 hb4
                go_wp2_with (fail)
                go_roundg gj
                case rel => exact ⟨u, u + 1, E, ec, hs4, rfl, by have := HK2.out; show _ = _; omega, by go_num, rfl, own_base hown4 (by have := hb43.size; omega), htab4, hb04⟩
                case measure => omega
              · have htN : t < M.length := by have := HK4.out; omega
                have htN' : (t : Int) < (M.length : Int) := by omega
                have HLt := Lib.hid (HNN.out t)
                have hM3 : M.length ≤ 343 := HMLu.out
                have HYt := Lib.hid (fun j => HNY.out t j htN)
                have HOt := Lib.hid (HNO.out t htN)
                have HJt := Lib.hid fun j (hj : j < N.length) w1 (hb1 : Below w3.heap.size w3 w1) => HJ.out (N.getD j []) (M.getD t []) (S1 j).1 (S3 t).1 (S1 j).2 (S3 t).2 (HNKu.out _ (get_mem hj)) (HMKu.out _ (get_mem htN)) w1 ((hrt1.row j hj).later hb1) ((hrt3.row t htN).later hb1)
                obtain ⟨b3, o3, rfl, _, HC3⟩ := hrt3.all_ (by omega)
                have F3 : Hid (∀ W, Below w3.heap.size w3 W → W.cell? ⟨b3, o3 + t, none⟩ = some (.slice (S3 t).1 (M.getD t []).length (S3 t).2)) := fun W h => HC3 W h t htN
                have hkt4 := own_call (hk3 t htN) hb4
                clear HC3
                go_wp2_with (fail)
                go_loopg [11, 14] N.length (fun gk nv iv wq => ∃ j : Nat, Hid (j + gk = N.length) ∧ iv = .int .i64 (j : Int) ∧ nv = .slice E (nxTo N M (m : Int) t).length ec ∧ Hid (∀ i, i < j → ¬ jumpL (N.getD i []) (M.getD t []) ≤ (m : Int)) ∧ wq.ownsRow w3.heap.size 23 1 (.slice E (nxTo N M (m : Int) t).length ec) (nxTo N M (m : Int) t).length hs4 ∧ Tab wq w.heap.size hs4 (nxTo N M (m : Int) t) ∧ wq.ownsRow w.heap.size 3 1 (.slice (S3 t).1 (M.getD t []).length (S3 t).2) (M.getD t []).length (ints (M.getD t [])) ∧ Below w3.heap.size w3 wq)
                case atStart => exact ⟨0, by simp [Hid], rfl, rfl, fun i hi => absurd hi (by omega), hown4, htab4, hkt4, hb4⟩
                case round =>
                  clear hown4 htab4 hkt4 hb4
                  obtain ⟨j, HK5, rfl, rfl, hnone, hown5, htab5, hkt5, hb5⟩ := hrel
                  rcases gk with _ | gq
                  · obtain rfl : j = N.length := HK5.out
                    have HO1 := Lib.hid (HOt.out (fun i hi => by have := hnone.out i hi; omega))
                    rw [← HO1.out] at hown5 htab5
                    go_wp2_with (fail)
                    go_roundg gt
                    case rel => exact ⟨t + 1, E, ec, hs4, by have := HK4.out; show _ = _; omega, by go_num, by rw [HO1.out], hown5, htab5, hb5⟩
                    case measure => omega
                  · have hjN : j < N.length := by have := HK5.out; omega
                    have hjN' : (j : Int) < (N.length : Int) := by omega
                    have hN3 : N.length ≤ 343 := HNLu.out
                    obtain ⟨b1, o1, rfl, _, HC1⟩ := hrt1.all_ (by omega)
                    have F1 : Hid (∀ W, Below w3.heap.size w3 W → W.cell? ⟨b1, o1 + j, none⟩ = some (.slice (S1 j).1 (N.getD j []).length (S1 j).2)) := fun W h => HC1 W h j hjN
                    have HJj := Lib.hid (HJt.out j hjN)
                    have HYj := Lib.hid (HYt.out j hjN)
                    have HNj : Hid (¬ jumpL (N.getD j []) (M.getD t []) ≤ (m : Int) → ∀ i, i < j + 1 → ¬ jumpL (N.getD i []) (M.getD t []) ≤ (m : Int)) := fun h i hi => by
                      rcases Nat.lt_or_ge i j with h' | h'
                      · exact hnone.out i h'
                      · rw [show i = j by omega]; exact h
                    have hdr : Below wr.heap.size wr wr.drew := (Below.refl _ _).drew
                    generalize hv : jumpL (N.getD j []) (M.getD t []) = v at *
                    generalize (N.getD j []).length = n6 at *
                    clear HC1 hv
                    go_wp2_with (fail)
                    have HC := Lib.hid (fun W (hW : Below wr.heap.size wr W) => And.intro (F1.out W (bl_call hb5 hW)) (And.intro (F3.out W (bl_call hb5 hW)) (HJj.out W (bl_call hb5 hW))))
                    go_cut [64] from 54 to 64 (fun s64 wc => s64 = .bool (decide (v ≤ (m : Int))) ∧ Below wr.heap.size wr wc)
                    case first =>
                      clear hown5 htab5 hkt5 hb5 hk1 hk3 hrt1 hrt3 hb43 hb33 hb3 hb
                      clear HT2 HM HMK HML HN0 HNS HNL HNK HJ HFO HF1 HF2 HV hno HNSk HNN HNY HNZ HNO HJt HYj HNj hnone HOt HYt F1 F3 HJj HLt HMLu HNLu HMKu HNKu HK2 HU HK4 HK5 HK HN0m
                      repeat (rename ∀ (a : Act) (w : World), Code.wp _ _ _ a w → _ => hz; clear hz)
                      repeat (rename ∀ (a : Act) (w : World), Handed _ _ a w → _ => hz; clear hz)
                      repeat (rename ∀ (k : Nat) (a' : Act) (w' : World), _ → _ => hz; clear hz)
                      generalize (nxTo N M (m : Int) t).length = zz at *
                      generalize (M.getD t []).length = zm at *
                      generalize Value.slice E zz ec = ve at *
                      generalize (S1 j).1 = sa at *
                      generalize (S1 j).2 = sb at *
                      generalize (S3 t).1 = sc at *
                      generalize (S3 t).2 = sd at *
                      generalize (m : Int) = mi at *
                      clear hm6' hr1' hr5 hr1
                      refine wp_region_low (hdr) (by kernel_rfl) (by kernel_rfl) ?_
                      repeat (first
                        | go_big_quiet_skip
                        | (go_big_quiet_want
                           apply Exists.intro
                           refine And.intro (fun W hW => ?_) ?_
                           · (have z1 := (HC.out W hW).1; have z3 := (HC.out W hW).2.1)
                             go_simp
                             first
                               | exact rfl
                               | (refine (HC.out W hW).2.2.out.mono ?_; rintro e w6 ⟨rfl, hbb⟩; exact ⟨rfl, bl_call hW hbb⟩)
                           try go_simp
                           go_big_quiet_on))
                      refine wpQuiet_nil ?_
                      intro w9 hb9
                      go_wp2_with (fail)
                      go_meet
                      exact ⟨rfl, hb9⟩
                    case rest =>
                      obtain ⟨rfl, hb9⟩ := hcut
                      generalize hw9 : wc = w9 at *
                      clear hw9
                      have hb59 := bl_call hb5 hb9
                      have hown9 := own_call hown5 hb9
                      have htab9 := htab5.call hb9
                      have hkt9 := own_call hkt5 hb9
                      clear hown5 htab5 hkt5
                      by_cases hvm : v ≤ (m : Int)
                      · rw [decide_eq_true hvm]
                        have q3 := F3.out w9 hb59
                        have HYY := Lib.hid (HYj.out (by omega))
                        obtain ⟨A7, c7, w7, hrun, hown7, hb7, hg7⟩ := append_slice w3.heap.size w9 _ (nxTo N M (m : Int) t).length hs4 (.slice (S3 t).1 (M.getD t []).length (S3 t).2) rfl hown9 (by have := HLt.out; omega) hb59.size
                        have E1 := Lib.hid hrun
                        have HYL : Hid ((nxTo N M (m : Int) (t + 1)).length = (nxTo N M (m : Int) t).length + 1) := by show _ = _; rw [HYY.out]; simp
                        have htab7 : Hid (Tab w7 w.heap.size (hs4 ++ [.slice (S3 t).1 (M.getD t []).length (S3 t).2]) (nxTo N M (m : Int) (t + 1))) := by
                          show Tab _ _ _ _
                          rw [HYY.out]
                          exact (Tab.call (Tab.snoc htab9 hkt9) (bl_alloc (Below.refl _ _) _)).grown (hown9.alloc _) (by decide) hg7
                        have hown7' : Hid (w7.ownsRow w3.heap.size 23 1 (.slice A7 ((nxTo N M (m : Int) t).length + 1) c7) (nxTo N M (m : Int) (t + 1)).length (hs4 ++ [.slice (S3 t).1 (M.getD t []).length (S3 t).2])) := by
                          show World.ownsRow _ _ _ _ _ _ _
                          rw [HYL.out]; exact hown7
                        have hb37 := hb59.trans hb7
                        clear hrun hown7 hg7 hown9 htab9 hkt9
                        generalize hmm : (nxTo N M (m : Int) t).length = mm at *
                        generalize hzm : (M.getD t []).length = zm at *
                        go_wp2_with (at_builtin; refine wpList_append_eq rfl _ _ 22 rfl _ _ _ w7 rfl rfl E1.out ?_)
                        go_roundg gt
                        case rel => exact ⟨t + 1, A7, c7, _, by have := HK4.out; show _ = _; omega, by go_num, by rw [HYL.out], by rw [HYL.out] at hown7' ⊢; exact hown7'.out, htab7.out, hb37⟩
                        case measure => omega
                      · rw [decide_eq_false hvm]
                        go_wp2_with (fail)
                        go_roundg gq
                        case rel => exact ⟨j + 1, by have := HK5.out; show _ = _; omega, by go_num, rfl, HNj.out (by omega), hown9, htab9, hkt9, hb59⟩
                        case measure => omega
end Go.Proofs.Ytmmjdabioolodaa
