/- Readings without one, and those that add nothing: the specification's. -/
import Derived.Test.YtbbhaongakmhpaaNdl
import Derived.Test.YtbbhaongakmhpaaRtgt
import Derived.Test.YtbbhaongakmhpaaCkc
namespace Go.Proofs.Ytbbhaongakmhpaa
open Go.RowKit

theorem step_append_run {P : Program} {ops : Array Oper} {o : Oper} {a : Act} {w : World} {K : Act → World → Prop} {Q : Exit → Act → World → Prop} {E : Prop}
    (hg : o.guard = none) (s x : Operand) (t : TypeId) (hop : o.op = Op.call { callee := Callee.builtin Builtin.append, args := #[s, x], argTypes := #[t, t] })
    (v1 v2 v' : Value) (W2 : World) (hs : a.eval s = v1) (hx : a.eval x = v2) (hrun : ∀ ty, (Builtin.append_ #[t, t] ty #[v1, v2]).run P w = .ok v' W2) (hK : K (a.put o.dst v') W2) :
    if Region.wanted o (yielded ops a.tmps) = true then Oper.wp P o a w K Q else E := by
  have hw : Region.wanted o (yielded ops a.tmps) = true := by simp [Region.wanted, hg]
  rw [if_pos hw]
  unfold Oper.wp execOp
  simp only [hop, resolve, invoke, builtin, Sem.run_bind, Sem.run_pure, Result.andThen_ok, List.map_toArray, List.map_cons, List.map_nil, hs, hx, hrun]
  exact hK
set_option maxRecDepth 100000 in
set_option maxHeartbeats 4000000 in
theorem less_c (A : Option Addr) (l : List T3) (c i : Nat) (w1 : World) (hlen : l.length ≤ 1000) (hc : l.length ≤ c) (hil : i < l.length) (hr : Rd w1 A (cellsT l)) :
    Calls Try.prog 81 #[.slice A l.length c, .int .i64 (i : Int)] w1 fun e w' => ∃ A' c', e = .returned (.slice A' (dropK l i).length c') ∧ w'.ownsRow w1.heap.size 55 3 (.slice A' (dropK l i).length c') (dropK l i).length (cellsT (dropK l i)) ∧ Below w1.heap.size w1 w' := by
  have hil' : (i : Int) < (l.length : Int) := by omega
  obtain ⟨b, o, rfl, hbl, _⟩ := hr.tri hil
  have hs1 := fun w1 => headT_run b o l.length c i (by omega) hc w1
  have hs2 := fun w1 => fromT_run b o l.length c (i + 1) (by omega) hc w1
  have hrt : Rd w1 (some ⟨b, o, none⟩) (cellsT (l.take i)) := hr.taken i
  have htl : (l.take i).length = i := by simp; omega
  have hdl : (l.drop (i + 1)).length = l.length - (i + 1) := by simp
  have hXb : Below w1.heap.size w1 (w1.drew.alloc (.cells #[] 55)) := bl_alloc (Below.refl w1.heap.size w1).drew _
  have hBb : Bx (w1.drew.alloc (.cells #[] 55)) w1.heap.size 55 #[] := Bx.new w1.drew _ _
  obtain ⟨A1, c1, W1, E1, o1, g1⟩ := grow_rows (w1.drew.alloc (.cells #[] 55)) w1.heap.size _ [] (l.take i) (some ⟨b, o, none⟩) c (own_empty (Nat.le_refl _) hBb) (hrt.later hXb) (by simp; omega) hXb.size
  have hW1 : Below w1.heap.size w1 W1 := hXb.trans (grown_below (own_empty (Nat.le_refl _) hBb) g1 hXb.size)
  rw [List.nil_append] at o1
  obtain ⟨o2, ho2e, hrd2⟩ : ∃ o2, (if c = i + 1 then some (⟨b, o, none⟩ : Addr) else some ⟨b, o + (i + 1) * 3, none⟩) = some ⟨b, o2, none⟩ ∧ Rd W1 (some ⟨b, o2, none⟩) (cellsT (l.drop (i + 1))) := by
    by_cases h : c = i + 1
    · exact ⟨o, by rw [if_pos h], .inl (by rw [List.drop_of_length_le (by omega)]; rfl)⟩
    · exact ⟨_, by rw [if_neg h], (hr.later hW1).dropped (i + 1)⟩
  obtain ⟨A2, c2, W2, E2, o2', g2⟩ := grow_rows W1 w1.heap.size _ (l.take i) (l.drop (i + 1)) (some ⟨b, o2, none⟩) (c - (i + 1)) o1 hrd2 (by simp; omega) hW1.size
  have hW2 : Below w1.heap.size w1 W2 := hW1.trans (grown_below o1 g2 hW1.size)
  have HEL : Hid ((dropK l i).length = i + (l.length - (i + 1))) := by show _ = _; rw [dropK_length hil]; omega
  have o2'' : W2.ownsRow w1.heap.size 55 3 (.slice A2 (dropK l i).length c2) (dropK l i).length (cellsT (dropK l i)) := o2'
  simp only [List.length_nil, Nat.zero_add, htl, hdl] at E1 E2
  have F1 := Lib.hid E1
  have F2 := Lib.hid E2
  have q8 : IntKind.i64.wrap ((i : Int) + 1) = (i : Int) + 1 := IntWalk.i64_in _ ⟨by omega, by omega⟩
  have hq : ((i : Int) + 1) = ((i + 1 : Nat) : Int) := by omega
  have q1 : i ≤ c := by omega
  have q2 : (i : Int) ≤ (c : Int) := by omega
  have q3 : (0 : Int) ≤ (i : Int) + 1 := by omega
  have q4 : (i : Int) + 1 ≤ (l.length : Int) := by omega
  have q5 : i + 1 ≤ l.length := by omega
  have q6 : (l.length : Int) ≤ (c : Int) := by omega
  have HO := Lib.hid o2''
  clear E1 E2 hXb hBb o1 g1 g2 hrt htl hdl hrd2 o2' o2'' hq hs1 hs2
  go_enter Try.func81, Try.ntmps81
  go_wp2_with (fail)
  go_region_law (first
    | (refine step_append_run rfl (.tmp 5) (.tmp 8) 22 rfl (.slice (some ⟨w1.heap.size, 0, none⟩) 0 0) (.slice (some ⟨b, o, none⟩) i c) (.slice A1 i c1) W1 (by simp [Act.eval]) (by simp [Act.eval]) F1.out ?_)
    | (refine step_append_run rfl (.tmp 9) (.tmp 13) 22 rfl (.slice A1 i c1) (.slice (some ⟨b, o2, none⟩) (l.length - (i + 1)) (c - (i + 1))) (.slice A2 (i + (l.length - (i + 1))) c2) W2 (by simp [Act.eval]) (by simp [Act.eval, ← ho2e]) F2.out ?_))
  all_goals
    go_wp2_with (fail)
    go_ret
    exact ⟨A2, c2, by rw [HEL.out]; rfl, HO.out, hW2⟩
set_option maxRecDepth 100000 in
set_option maxHeartbeats 2000000 in
theorem rWithout_c (A : Option Addr) (l : List T3) (c : Nat) (k : Int) (w : World) (hlen : l.length ≤ 1000) (hc : l.length ≤ c) (hr : Rd w A (cellsT l)) :
    Calls Try.prog 53 #[.slice A l.length c, .int .i64 k] w (OutR (witL l k) (witE l k) w) := by
  have HV := Lib.hid (rvalidate_c A l c w hlen hr)
  have hwn : wrap64 ((l.length : Int) - 1) = (l.length : Int) - 1 := IntWalk.wrap64_in _ ⟨by omega, by omega⟩
  have HI := fun w => Lib.hid (within_c k 0 ((l.length : Int) - 1) w)
  rw [inB_one] at HI
  rcases wit_cases l k with ⟨hv, hE, hL⟩ | ⟨hv, h1, hE, hL⟩ | ⟨hv, h1, h2, hE, hL⟩ | ⟨hv, i, rfl, hil, h2, hE, hL⟩
  · have hv' : (validE l != 0) = true := by simpa using hv
    rw [hE, hL]
    clear hE hL
    generalize validE l = ev at *
    go_enter Try.func53, Try.ntmps53
    go_wp2_with (fail)
    refine HV.out.mono ?_
    rintro e w1 ⟨rfl, hb1⟩
    go_wp2_with (fail)
    go_ret2
    exact ⟨none, 0, rfl, World.ownsRow_nil _ _ _ _, hb1⟩
  · rw [hE, hL]
    rw [hv] at HV
    rw [h1] at HI
    clear hE hL hv h1
    go_enter Try.func53, Try.ntmps53
    go_wp2_with (fail)
    refine HV.out.mono ?_
    rintro e w1 ⟨rfl, hb1⟩
    go_wp2_with (go_at_call 62; refine (HI _).out.mono ?_; rintro e w2 ⟨rfl, rfl⟩)
    go_ret2
    exact ⟨none, 0, rfl, World.ownsRow_nil _ _ _ _, hb1⟩
  · rw [hE, hL]
    rw [hv] at HV
    have hk0 : inB k 0 0 = true := by
      have := oneB_z.1 h1
      rw [inB_z]; omega
    have hk1 : inB k 0 ((l.length : Int) - 1) = true := by rw [inB_one]; exact h1
    have h2n : (l.length : Int) = 1 := by omega
    clear hE hL hv h1 HI h2 hwn
    go_enter Try.func53, Try.ntmps53
    go_wp2_with (fail)
    refine HV.out.mono ?_
    rintro e w1 ⟨rfl, hb1⟩
    go_wp2_with (go_at_call 62; refine (within_c _ _ _ _).mono ?_; rintro e w2 ⟨rfl, rfl⟩)
    go_ret2
    exact ⟨none, 0, rfl, World.ownsRow_nil _ _ _ _, hb1⟩
  · have ho : oneB (i : Int) l.length = true := by rw [oneB_z]; omega
    have HC := fun w1 h => Lib.hid (less_c A l c i w1 hlen hc hil h)
    rw [hE, hL]
    rw [hv] at HV
    rw [ho] at HI
    have h2' : ((l.length : Int) == 1) = false := by rw [beq_eq_false_iff_ne]; omega
    clear hE hL hv h2
    generalize dropK l i = M at *
    go_enter Try.func53, Try.ntmps53
    go_wp2_with (fail)
    refine HV.out.mono ?_
    rintro e w1 ⟨rfl, hb1⟩
    go_wp2_with (go_at_call 62; refine (HI _).out.mono ?_; rintro e w2 ⟨rfl, rfl⟩)
    refine (HC _ (hr.later hb1)).out.mono ?_
    rintro e w3 ⟨A3, c3, rfl, ho3, hb3⟩
    go_wp2_with (fail)
    go_ret2
    exact ⟨A3, c3, rfl, own_base ho3 hb1.size, bl_call hb1 hb3⟩
set_option maxRecDepth 100000 in
set_option maxHeartbeats 8000000 in
theorem rNeedless_c (A : Option Addr) (l : List T3) (cap : Nat) (r : Int) (w : World) (hlen : l.length ≤ 1000) (hcap : l.length ≤ cap) (hr : Rd w A (cellsT l)) :
    Calls Try.prog 44 #[.slice A l.length cap, .int .i64 r] w (OutI (ndlG l r) (ratE l r) w) := by
  have HV := Lib.hid (rated_c A l cap r w hlen hr)
  rcases ndl_cases l r with ⟨hv, hG⟩ | ⟨hv, h2, hG⟩ | ⟨hv, h2, h3, hG⟩ | ⟨hv, h2, h3, hG⟩
  · have hv' : (ratE l r != 0) = true := by simpa using hv
    rw [hG]
    clear hG
    generalize ratE l r = v at *
    go_enter Try.func44, Try.ntmps44
    go_wp2_with (go_at_call 57; refine HV.out.mono ?_; rintro e w1 ⟨rfl, hb1⟩)
    go_ret2
    exact ⟨none, 0, rfl, World.ownsRow_nil _ _ _ _, hb1⟩
  · rw [hG, hv]
    rw [hv] at HV
    have h2n : (l.length : Int) = 1 := by omega
    clear hG hv h2
    go_enter Try.func44, Try.ntmps44
    go_wp2_with (go_at_call 57; refine HV.out.mono ?_; rintro e w1 ⟨rfl, hb1⟩)
    go_ret2
    exact ⟨none, 0, rfl, World.ownsRow_nil _ _ _ _, hb1⟩
  · obtain ⟨ho, h0, h9⟩ := ratE_ok.1 hv
    have HA := fun w' h => Lib.hid (ragree_c A l cap r w' hlen (ho.fit h0 h9) (hr.later (w' := w') h))
    rw [hG, hv]
    rw [hv] at HV
    rw [h3] at HA
    have h2' : ((l.length : Int) == 1) = false := by rw [beq_eq_false_iff_ne]; omega
    clear hG hv h2 h3 ho h0 h9
    go_enter Try.func44, Try.ntmps44
    go_wp2_with (first | (go_at_call 57; refine HV.out.mono ?_; rintro e w1 ⟨rfl, hb1⟩) | (go_at_call 58; refine (HA _ hb1).out.mono ?_; rintro e w2 ⟨rfl, hb2⟩))
    go_ret2
    exact ⟨none, 0, rfl, World.ownsRow_nil _ _ _ _, bl_call hb1 hb2⟩
  · obtain ⟨ho, h0, h9⟩ := ratE_ok.1 hv
    have HA := fun w' h => Lib.hid (ragree_c A l cap r w' hlen (ho.fit h0 h9) (hr.later (w' := w') h))
    have HTA := fun w' h => Lib.hid (tight_c A l cap r w' ho h0 h9 (hr.later (w' := w') h))
    have HW := Lib.hid (fun k (hk : k < l.length) w' h => less_c A l cap k w' hlen hcap hk (hr.later (w' := w') h))
    have HT2 := Lib.hid (fun k (hk : k < l.length) B c w' h => tight_c B (dropK l k) c r w' (drop_ok ho hk h2) h0 h9 h)
    have HNB : Hid (∀ k, needlessB l r k = decide (tightL (dropK l k) r = dropK (tightL l r) k)) := fun _ => rfl
    have HDL := Lib.hid (fun k (hk : k < l.length) => (show (tightL (dropK l k) r).length ≤ 100000 by rw [tightL_length, dropK_length hk]; omega))
    have HLT := Lib.hid (tightL_length l r)
    rw [hG, hv]
    rw [hv] at HV
    rw [h3] at HA
    have h2' : ((l.length : Int) == 1) = false := by rw [beq_eq_false_iff_ne]; omega
    have HNL : Hid (needL l r = needTo l r l.length) := rfl
    have HLEN := Lib.hid (need_len l r)
    have HNX := Lib.hid (need_next l r)
    generalize needL l r = res at HNL ⊢
    generalize tightL l r = TL at HTA HNB HLT
    clear hG hv h2 h3 ho h0 h9
    go_enter Try.func44, Try.ntmps44
    go_wp2_with (first | (go_at_call 57; refine HV.out.mono ?_; rintro e w1 ⟨rfl, hb1⟩) | (go_at_call 58; refine (HA _ hb1).out.mono ?_; rintro e w2 ⟨rfl, hb2⟩))
    have hb12 := bl_call hb1 hb2
    clear hb1 hb2
    refine (HTA _ hb12).out.mono ?_
    rintro e w3 ⟨A3, c3, rfl, ho3, hb3⟩
    have hb13 := bl_call hb12 hb3
    have HL3 := Lib.hid (fun k (hk : k < l.length) w' (h : Below w3.heap.size w3 w') => less_c A3 TL c3 k w' (by rw [HLT.out]; omega) (own_cap ho3) (by rw [HLT.out]; exact hk) ((own_rd ho3).1.later (w' := w') h))
    go_wp2_with (fail)
    clear hb12 hb3 HTA HA HV
    go_loopg [8, 9] l.length (fun gk v' iv wr => ∃ (k : Nat) (v : Value), v = v' ∧ Hid (k + gk = l.length) ∧ iv = .int .i64 (k : Int) ∧ wr.ownsRow w3.heap.size 3 1 v (needTo l r k).length (ints (needTo l r k)) ∧ Below w3.heap.size w3 wr)
    case atStart => exact ⟨0, _, rfl, by simp [Hid], rfl, World.ownsRow_nil _ _ _ _, Below.refl _ _⟩
    case round =>
      obtain ⟨k, v, rfl, HK, rfl, hown, hb3r⟩ := hrel
      have hb := bl_call hb13 hb3r
      clear ho3
      rcases gk with _ | gi
      · obtain rfl : k = l.length := HK.out
        obtain ⟨A', c', rfl⟩ := own_form hown
        rw [← HNL.out] at hown
        go_wp2_with (fail)
        go_ret2
        exact ⟨A', c', by rw [← HNL.out]; rfl, own_base hown hb13.size, hb⟩
      · have hlt : k < l.length := by have := HK.out; omega
        have hlt' : (k : Int) < (l.length : Int) := by omega
        obtain ⟨A1, c1', rfl⟩ := own_form hown
        obtain ⟨n1, n2⟩ := HNX.out k
        have hnb := HNB.out k
        have N1 := Lib.hid n1
        have N2 := Lib.hid n2
        have hln := HLEN.out k
        have HL4 := Lib.hid (HL3.out k hlt)
        have HW4 := Lib.hid (HW.out k hlt)
        have HT4 := Lib.hid (HT2.out k hlt)
        have hdl := HDL.out k hlt
        clear n1 n2
        generalize needTo l r k = M at *
        generalize dropK TL k = Y at *
        generalize tightL (dropK l k) r = X at *
        generalize dropK l k = Z at *
        have HSM := fun A B c d w h h' => Lib.hid (same_c A B X Y c d w hdl h h')
        rw [← hnb] at HSM
        clear hnb hdl
        generalize needlessB l r k = nb at *
        go_wp2_with (fail)
        refine (HW4.out wr hb).mono ?_
        rintro e w4 ⟨A4, c4, rfl, ho4, hb4⟩
        have hb04 := bl_call hb hb4
        have hb34 := bl_call hb3r hb4
        go_wp2_with (fail)
        refine (HT4.out A4 c4 w4 (own_rd ho4).1).mono ?_
        rintro e w5 ⟨A5, c5, rfl, ho5, hb5⟩
        have hb05 := bl_call hb04 hb5
        have hb35 := bl_call hb34 hb5
        go_wp2_with (fail)
        refine (HL4.out w5 hb35).mono ?_
        rintro e w6 ⟨A6, c6, rfl, ho6, hb6⟩
        have hb06 := bl_call hb05 hb6
        have hb36 := bl_call hb35 hb6
        have hoC := own_call (own_call (own_call hown hb4) hb5) hb6
        have hr5 := (own_rd ho5).1.later hb6
        have hr6 := (own_rd ho6).1
        clear hown hb hb3r hb4 hb5 hb04 hb34 hb05 hb35 ho4 ho5 ho6 hb6
        go_wp2_with (fail)
        refine (HSM _ _ _ _ _ hr5 hr6).out.mono ?_
        rintro e w7 ⟨rfl, hb7⟩
        have hb37 := bl_call hb36 hb7
        have hoD := own_call hoC hb7
        clear hoC hb06 hb36 hb7 hr5 hr6 hb13
        rcases nb with _ | _
        · have HN := Lib.hid (N2.out rfl)
          clear N1 N2
          go_wp2_with (fail)
          go_roundg gi
          case rel => exact ⟨k + 1, _, rfl, by have := HK.out; show _ = _; omega, by go_num, by rw [HN.out]; exact hoD, hb37⟩
          case measure => omega
        · have HN := Lib.hid (N1.out rfl)
          clear N1 N2
          obtain ⟨A8, c8, W8, E8, ho8, hb8, _⟩ := append_int w3.heap.size w7 _ M (k : Int) hoD (by omega) hb37.size
          have F8 := Lib.hid E8
          have hb38 := hb37.trans hb8
          clear E8 hb8 hoD
          go_wp2_with (at_builtin; refine wpList_append_eq rfl _ _ 50 rfl _ _ _ W8 rfl rfl F8.out ?_)
          go_roundg gi
          case rel => exact ⟨k + 1, _, rfl, by have := HK.out; show _ = _; omega, by go_num, by rw [HN.out]; exact ho8, hb38⟩
          case measure => omega
end Go.Proofs.Ytbbhaongakmhpaa
