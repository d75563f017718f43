/- Readings with their bounds, and equal lists: the specification's. -/
import Derived.Test.YtbbhaongakmhpaaRbd
import Derived.Test.YtbbhaongakmhpaaTgt
namespace Go.Proofs.Ytbbhaongakmhpaa
open Go.RowKit

theorem tight_snoc {l : List T3} {r : Int} {k : Nat} (hk : k < l.length) : (tightL l r).take (k + 1) = (tightL l r).take k ++ [(tm l k, lowB l r (tm l k), highB l r (tm l k))] := by
  rw [List.take_succ_eq_append_getElem (by simpa using hk)]
  congr 1
  have := tight_get (r := r) hk
  simp [hk] at this
  simp [this]
set_option maxRecDepth 100000 in
set_option maxHeartbeats 4000000 in
theorem tight_c (A : Option Addr) (l : List T3) (cap : Nat) (r : Int) (w : World) (hl : Ok l) (r0 : 0 ≤ r) (r9 : r ≤ 9) (hr : Rd w A (cellsT l)) :
    Calls Try.prog 76 #[.slice A l.length cap, .int .i64 r] w fun e w' => ∃ A' c', e = .returned (.slice A' (tightL l r).length c') ∧ w'.ownsRow w.heap.size 55 3 (.slice A' (tightL l r).length c') (tightL l r).length (cellsT (tightL l r)) ∧ Below w.heap.size w w' := by
  have hlen : l.length ≤ 1000 := Nat.le_trans hl.len (by decide)
  have HB := Lib.hid (fun t w' (h : Below w.heap.size w w') (ht : 0 ≤ t) (ht2 : t ≤ 2000) => rbounds_c A l cap r t w' hl.ne hlen (hl.fit r0 r9) ht ht2 (hr.later (w' := w') h))
  have HT := Lib.hid (fun k (h : k < l.length) => (⟨hl.t0 k h, hl.t1 k h⟩ : 0 ≤ tm l k ∧ tm l k ≤ 1000))
  have HS := Lib.hid (fun k (h : k < l.length) => @tight_snoc l r k h)
  have HLT := Lib.hid (tightL_length l r)
  generalize tightL l r = TL at *
  clear hl
  go_enter Try.func76, Try.ntmps76
  go_wp2_with (fail)
  go_loopg [5, 6] l.length (fun gk v' iv wr => ∃ (k : Nat) (v : Value), v = v' ∧ Hid (k + gk = l.length) ∧ iv = .int .i64 (k : Int) ∧ wr.ownsRow w.heap.size 55 3 v (TL.take k).length (cellsT (TL.take k)) ∧ Below w.heap.size w wr)
  case atStart => exact ⟨0, _, rfl, by simp [Hid], rfl, World.ownsRow_nil _ _ _ _, Below.refl _ _⟩
  case round =>
    obtain ⟨k, v, rfl, HK, rfl, hown, hb⟩ := hrel
    rcases gk with _ | gi
    · obtain rfl : k = l.length := HK.out
      obtain ⟨A', c', rfl⟩ := own_form hown
      have e : TL.take l.length = TL := by rw [← HLT.out, List.take_length]
      rw [e] at hown
      go_wp2_with (fail)
      go_ret
      exact ⟨A', c', by rw [e]; rfl, hown, hb⟩
    · have hlt : k < l.length := by have := HK.out; omega
      have hlt' : (k : Int) < (l.length : Int) := by omega
      obtain ⟨q0, q1⟩ := HT.out k hlt
      obtain ⟨A1, c1', rfl⟩ := own_form hown
      obtain ⟨b', o, rfl, hcl⟩ := hr.tris hlt
      have HCL : Hid (∀ w1, Below w.heap.size w w1 → w1.cell? ⟨b', o + k * 3, none⟩ = some (.int .i64 (tm l k))) := fun w1 h => (hcl w1 h).1
      clear hcl
      have HX := Lib.hid (HS.out k hlt)
      have hfl : (TL.take k).length ≤ 1000 := by rw [List.length_take]; omega
      have HC := Lib.hid (fun w' h => HB.out (tm l k) w' h q0 (by omega))
      generalize lowB l r (tm l k) = lo at *
      generalize highB l r (tm l k) = hi at *
      generalize tm l k = T at *
      generalize TL.take k = M at *
      have hc0 := HCL.out wr hb
      go_wp2_with (fail)
      refine (HC.out wr hb).mono ?_
      rintro e w2 ⟨rfl, hb2⟩
      have hb02 := bl_call hb hb2
      have hc2 := HCL.out w2 hb02
      obtain ⟨A3, c4, W3, E3, ho3, hb3, _⟩ := append_three w.heap.size 22 55 rdg_info Try.underlying22 w2 _ M (T, lo, hi) (own_call hown hb2) (by omega) hb02.size
      have F3 := Lib.hid E3
      have hb03 := hb02.trans hb3
      clear E3 hown hb hb2 hb3 hb02 hc0
      go_wp2_with (at_builtin; refine wpList_append_eq rfl _ _ 22 rfl _ _ _ W3 rfl rfl F3.out ?_)
      go_roundg gi
      case rel => exact ⟨k + 1, _, rfl, by have := HK.out; show _ = _; omega, by go_num, by rw [HX.out]; exact ho3, hb03⟩
      case measure => omega
set_option maxHeartbeats 1000000 in
theorem rTight_c (A : Option Addr) (l : List T3) (cap : Nat) (r : Int) (w : World) (hlen : l.length ≤ 1000) (hr : Rd w A (cellsT l)) :
    Calls Try.prog 36 #[.slice A l.length cap, .int .i64 r] w (OutTB (tgtG l r) (agrG l r) (ratE l r) w) := by
  have HV := Lib.hid (rated_c A l cap r w hlen hr)
  by_cases hv : ratE l r = 0
  · obtain ⟨ho, h0, h9⟩ := ratE_ok.1 hv
    have HA := fun w' h => Lib.hid (ragree_c A l cap r w' hlen (ho.fit h0 h9) (hr.later (w' := w') h))
    have HT := fun w' h => Lib.hid (tight_c A l cap r w' ho h0 h9 (hr.later (w' := w') h))
    rw [agrG_yes hv, hv]
    rw [hv] at HV
    rcases ha : agreeB l r with _ | _
    · have hG : tgtG l r = [] := by unfold tgtG; rw [agrG_yes hv, ha]; rfl
      rw [hG]
      rw [ha] at HA
      clear hv ho h0 h9 ha hG
      go_enter Try.func36, Try.ntmps36
      go_wp2_with (first | (go_at_call 57; refine HV.out.mono ?_; rintro e w1 ⟨rfl, hb1⟩) | (go_at_call 58; refine (HA _ hb1).out.mono ?_; rintro e w2 ⟨rfl, hb2⟩))
      go_ret3
      exact ⟨none, 0, rfl, World.ownsRow_nil _ _ _ _, bl_call hb1 hb2⟩
    · have hG : tgtG l r = tightL l r := by unfold tgtG; rw [agrG_yes hv, ha]; rfl
      rw [hG]
      rw [ha] at HA
      clear hv ho h0 h9 ha hG
      generalize tightL l r = TL at *
      go_enter Try.func36, Try.ntmps36
      go_wp2_with (first | (go_at_call 57; refine HV.out.mono ?_; rintro e w1 ⟨rfl, hb1⟩) | (go_at_call 58; refine (HA _ hb1).out.mono ?_; rintro e w2 ⟨rfl, hb2⟩; have hb12 := bl_call hb1 hb2))
      refine (HT _ hb12).out.mono ?_
      rintro e w3 ⟨A3, c3, rfl, ho3, hb3⟩
      go_wp2_with (fail)
      go_ret3
      exact ⟨A3, c3, rfl, own_base ho3 hb12.size, bl_call hb12 hb3⟩
  · have hv' : (ratE l r != 0) = true := by simpa using hv
    have hG : tgtG l r = [] := by unfold tgtG; rw [agrG_no hv]; rfl
    rw [agrG_no hv, hG]
    clear hG
    generalize ratE l r = v at *
    go_enter Try.func36, Try.ntmps36
    go_wp2_with (go_at_call 57; refine HV.out.mono ?_; rintro e w1 ⟨rfl, hb1⟩)
    go_ret3
    exact ⟨none, 0, rfl, World.ownsRow_nil _ _ _ _, hb1⟩
theorem same_step {p q : List T3} {k : Nat} (hp : k < p.length) (hq : k < q.length) (h : p.take k = q.take k) (he : p.getD k t0 = q.getD k t0) : p.take (k + 1) = q.take (k + 1) := by
  rw [List.take_succ_eq_append_getElem hp, List.take_succ_eq_append_getElem hq, h]
  simp [hp, hq] at he
  rw [he]
theorem same_not {p q : List T3} {k : Nat} (he : p.getD k t0 ≠ q.getD k t0) : decide (p = q) = false := by
  simp only [decide_eq_false_iff_not]
  rintro rfl
  exact he rfl
set_option maxRecDepth 100000 in
set_option maxHeartbeats 4000000 in
theorem same_c (A B : Option Addr) (p q : List T3) (c d : Nat) (w : World) (hlen : p.length ≤ 100000) (hr : Rd w A (cellsT p)) (hq : Rd w B (cellsT q)) :
    Calls Try.prog 37 #[.slice A p.length c, .slice B q.length d] w fun e w' => e = .returned (.bool (decide (p = q))) ∧ Below w.heap.size w w' := by
  by_cases hl : p.length = q.length
  · have hne : ((p.length : Int) != (q.length : Int)) = false := by simp [hl]
    have HL := Lib.hid hl
    generalize hres : decide (p = q) = res
    have HRES := Lib.hid hres
    clear hl hres
    go_enter Try.func37, Try.ntmps37
    go_wp2_with (fail)
    go_loopg [5] p.length (fun gk iv wr => ∃ k : Nat, Hid (k + gk = p.length) ∧ iv = .int .i64 (k : Int) ∧ Hid (p.take k = q.take k) ∧ Below w.heap.size w wr)
    case atStart => exact ⟨0, by simp [Hid], rfl, by simp [Hid], Below.refl _ _⟩
    case round =>
      obtain ⟨k, HK, rfl, ht, hb⟩ := hrel
      rcases gk with _ | gi
      · obtain rfl : k = p.length := HK.out
        have HN : Hid (res = true) := by
          have h := ht.out
          rw [List.take_length, HL.out, List.take_length] at h
          show _ = _
          rw [← HRES.out, decide_eq_true h]
        go_wp2_with (fail)
        go_ret
        exact ⟨ret_b HN.out, hb⟩
      · have hkl : k < p.length := by have := HK.out; omega
        have hkl' : (k : Int) < (p.length : Int) := by omega
        have hkq : k < q.length := by have := HL.out; omega
        have hkq' : (k : Int) < (q.length : Int) := by omega
        obtain ⟨b1, o1, rfl, _, c0, c1, c2⟩ := (hr.later hb).tri hkl
        obtain ⟨b2, o2, rfl, _, d0, d1, d2⟩ := (hq.later hb).tri hkq
        have H1 := Lib.hid (same_step hkl hkq ht.out)
        have H2 := Lib.hid (@same_not p q k)
        generalize p.getD k t0 = x at *
        generalize q.getD k t0 = y at *
        obtain ⟨x0, x1, x2⟩ := x
        obtain ⟨y0, y1, y2⟩ := y
        simp only [] at c0 c1 c2 d0 d1 d2
        by_cases e0 : x0 = y0
        · by_cases e1 : x1 = y1
          · by_cases e2 : x2 = y2
            · have HN := Lib.hid (H1.out (by rw [e0, e1, e2]))
              subst e0 e1 e2
              clear H1 H2
              go_wp2_with (fail)
              go_quiet (fail)
              go_wp2_with (fail)
              go_roundg gi
              case rel => exact ⟨k + 1, by have := HK.out; show _ = _; omega, by go_num, HN, below_drewN hb _⟩
              case measure => omega
            · have HN : Hid (res = false) := by show _ = _; rw [← HRES.out]; exact H2.out (by simp [e2])
              have e2' : (x2 == y2) = false := by simpa using e2
              have e2n : (x2 != y2) = true := by simpa using e2
              subst e0 e1
              clear H1 H2
              go_wp2_with (fail)
              go_quiet (fail)
              go_wp2_with (fail)
              go_ret
              exact ⟨ret_b HN.out, below_drewN hb _⟩
          · have HN : Hid (res = false) := by show _ = _; rw [← HRES.out]; exact H2.out (by simp [e1])
            have e1' : (x1 == y1) = false := by simpa using e1
            have e1n : (x1 != y1) = true := by simpa using e1
            subst e0
            clear H1 H2
            go_wp2_with (fail)
            go_quiet (fail)
            go_wp2_with (fail)
            go_ret
            exact ⟨ret_b HN.out, below_drewN hb _⟩
        · have HN : Hid (res = false) := by show _ = _; rw [← HRES.out]; exact H2.out (by simp [e0])
          have e0' : (x0 == y0) = false := by simpa using e0
          have e0n : (x0 != y0) = true := by simpa using e0
          clear H1 H2
          go_wp2_with (fail)
          go_quiet (fail)
          go_wp2_with (fail)
          go_ret
          exact ⟨ret_b HN.out, below_drewN hb _⟩
  · have hne : ((p.length : Int) != (q.length : Int)) = true := by rw [bne_iff_ne]; omega
    have hd : decide (p = q) = false := by simp only [decide_eq_false_iff_not]; rintro rfl; exact hl rfl
    rw [hd]
    go_enter Try.func37, Try.ntmps37
    go_wp2_with (fail)
    go_ret
    exact ⟨rfl, Below.refl _ _⟩
end Go.Proofs.Ytbbhaongakmhpaa
