/- The voltages whose field comes nearest to a wish: package volt's contract. -/
import Derived.Test.YtnofeibgnlkkcaaMak
import Derived.Test.YtnofeibgnlkkcaaDef
import Derived.Test.YtnofeibgnlkkcaaJmp
namespace Go.Proofs.Ytnofeibgnlkkcaa
open Go.RowKit Go.Shelf
attribute [local go_sem] Oper.semAt_some

/-- What has been found so far. -/
def nearR (g : List (List Int)) (l : List Int) (pre : List (List Int)) : Int × List Int := (nearF g l pre).getD (0, [])
theorem nearR_step (g : List (List Int)) (l : List Int) (pre : List (List Int)) (x : List Int) : nearR g l (pre ++ [x]) = if pre = [] ∨ farV g l x < (nearR g l pre).1 then (farV g l x, x) else nearR g l pre := by
  unfold nearR
  rw [nearF_snoc]
  cases h : nearF g l pre with
  | none => rw [nearF_none.1 h, if_pos (.inl rfl)]; rfl
  | some p =>
    obtain ⟨n, u⟩ := p
    have hne : pre ≠ [] := fun e => by rw [nearF_none.2 e] at h; cases h
    show ((if farV g l x < n then some (farV g l x, x) else some (n, u)).getD (0, [])) = if pre = [] ∨ farV g l x < n then _ else (n, u)
    by_cases hlt : farV g l x < n
    · rw [if_pos hlt, if_pos (.inr hlt)]; rfl
    · rw [if_neg hlt, if_neg (by rintro (h | h); exact hne h; exact hlt h)]; rfl
set_option maxRecDepth 100000 in
set_option maxHeartbeats 4000000 in
theorem Nearest_c (A B : Option Addr) (R : Rows) (g : List (List Int)) (l : List Int) (cap cap' : Nat) (w : World) (hl : Brief g) (hl' : l.length ≤ 1000) (hr : RT w A R g) (hs : Rd w B (ints l)) :
    Calls Try.prog 35 #[.slice A g.length cap, .slice B l.length cap'] w fun e w' => ∃ A' c', e = .returned (.tuple #[.int .i64 (nearG g l).1, .slice A' (nearG g l).2.length c', .int .i64 (errB (wayB g l))]) ∧ Rd w' A' (ints (nearG g l).2) ∧ Below w.heap.size w w' := by
  have hbb := bl_alloc (bl_alloc (Below.refl w.heap.size w) (.cells #[.slice A g.length cap] 22)) (.cells #[.slice B l.length cap'] 23)
  have x0 : Bx ((w.alloc (.cells #[.slice A g.length cap] 22)).alloc (.cells #[.slice B l.length cap'] 23)) w.heap.size 22 #[.slice A g.length cap] := (Bx.newAt rfl).alloc _
  have x1 : Bx ((w.alloc (.cells #[.slice A g.length cap] 22)).alloc (.cells #[.slice B l.length cap'] 23)) (w.heap.size + 1) 23 #[.slice B l.length cap'] := Bx.newAt (by simp)
  have hsz : ((w.alloc (.cells #[.slice A g.length cap] 22)).alloc (.cells #[.slice B l.length cap'] 23)).heap.size = w.heap.size + 2 := by simp
  have HV := Lib.hid (validateWish_c A B R g l cap cap' _ hl hl' (hr.later hbb) (hs.later hbb))
  change Hid (Calls _ _ _ _ fun e w' => e = .returned (.int .i64 (errB (wayB g l))) ∧ _) at HV
  obtain ⟨c00, _⟩ := x0.one
  obtain ⟨c01, _⟩ := x1.one
  by_cases hW : wayB g l = true
  · obtain ⟨hg, hlw⟩ := wayB_iff hW
    have HCG : Hid (nearR g l (voltsL (wires g)) = nearG g l) := by show _ = _; unfold nearG; rw [if_pos hW]; rfl
    rw [hW] at HV ⊢
    generalize nearG g l = res at *
    have hpt := hg.pts
    have hw3 := hg.wrs
    have hll := hlw.len
    have HWO := fun w1 (hb : Below w.heap.size w w1) => Lib.hid (wiresOf_c A R g cap w1 (by omega) (hr.later hb))
    clear hW
    generalize hn : wires g = n at *
    have hn3 : n ≤ 3 := by omega
    refine (callsIn_wide (n := 9)).1 ?_
    refine callsIn_of_wp_marks Try.func35 rfl trivial ?_ rfl
    simp only [Try.ntmps35, List.size_toArray, List.length_cons, List.length_nil, Nat.reduceAdd, Nat.reduceSub, Array.replicate_succ, Array.replicate_zero, List.push_toArray, List.append_toArray, List.nil_append, List.cons_append]
    have HLL := Lib.hid hll
    clear hll
    gi_wp2_with (fail)
    refine ⟨trivial, ?_⟩
    refine (callsIn_wide.2 HV.out).mono ?_
    rintro en w1 ⟨rfl, hb1⟩
    rw [errB_t]
    have hb01 := bl_call hbb hb1
    have x01 := x0.call hb1
    have x11 := x1.call hb1
    have hsw : w.heap.size + 2 ≤ w1.heap.size := by have := hb1.size; omega
    clear x0 x1 hb1 hbb hsz c00 c01 HV
    obtain ⟨c00, _⟩ := x01.one
    obtain ⟨c01, _⟩ := x11.one
    have hb3 := bl_alloc (bl_alloc hb01 (.cells #[.slice none 0 0] 23)) (.cells #[.int .i64 0] 3)
    have x8 : Bx ((w1.alloc (.cells #[.slice none 0 0] 23)).alloc (.cells #[.int .i64 0] 3)) w1.heap.size 23 #[.slice none 0 0] := (Bx.newAt rfl).alloc _
    have x9 : Bx ((w1.alloc (.cells #[.slice none 0 0] 23)).alloc (.cells #[.int .i64 0] 3)) (w1.heap.size + 1) 3 #[.int .i64 0] := Bx.newAt (by simp)
    have x02 := (x01.alloc (.cells #[.slice none 0 0] 23)).alloc (.cells #[.int .i64 0] 3)
    have x12 := (x11.alloc (.cells #[.slice none 0 0] 23)).alloc (.cells #[.int .i64 0] 3)
    have hs3 : ((w1.alloc (.cells #[.slice none 0 0] 23)).alloc (.cells #[.int .i64 0] 3)).heap.size = w1.heap.size + 2 := by simp
    have HWO3 := HWO _ hb3
    have c02 := x02.one.1
    gi_wp2_with (fail)
    refine ⟨trivial, ?_⟩
    refine (callsIn_wide.2 HWO3.out).mono ?_
    rintro en w2 ⟨rfl, rfl⟩
    gi_wp2_with (fail)
    refine ⟨trivial, ?_⟩
    refine (callsIn_wide.2 (voltages_c _ _)).mono ?_
    rintro en w2 ⟨rfl, hw2⟩
    have hb2 : Below ((w1.alloc (.cells #[.slice none 0 0] 23)).alloc (.cells #[.int .i64 0] 3)).heap.size ((w1.alloc (.cells #[.slice none 0 0] 23)).alloc (.cells #[.int .i64 0] 3)) w2 := by rw [← hw2]; exact bl_alloc (Below.refl _ _) (.cells #[.int .i64 n] 3)
    have hs2 : w2.heap.size = w1.heap.size + 3 := by rw [← hw2]; simp
    have y1 : Bx w2 (w1.heap.size + 2) 3 #[.int .i64 n] := by rw [← hw2]; exact Bx.newAt (by simp)
    replace x8 := x8.call hb2
    replace x9 := x9.call hb2
    replace x02 := x02.call hb2
    replace x12 := x12.call hb2
    have hb02 := bl_call hb3 hb2
    clear hw2 hb3 hs3 c02 HWO3 HWO hb2 c00 c01 x01 x11
    gi_wp2_with (fail)
    generalize hN : w1.heap.size = N at *
    have hNR0 : Hid (nearR g l [] = (0, [])) := rfl
    have HNS := Lib.hid (nearR_step g l)
    have hpow : (voltsL n).length ≤ 343 := by rw [voltsL_len]; exact pow_le hn3
    have HVM : Hid (∀ v, v ∈ voltsL n → OkV v (wires g) 3) := fun v hv => by rw [hn]; exact mem_volts.1 hv
    have hws : w.heap.size + 2 ≤ N := hsw
    refine wp_range (n := 9) (gf := 92) (lb := #[.pointer (some ⟨N + 1 + 1, 0, none⟩)]) rfl (enters_of Try.func92 (by kernel_rfl) rfl)
      (voltages_iter w2 n hn3 (N + 2) (fun k => k < w.heap.size + 2 ∨ k = N + 2) (by omega) y1.one.1 (.inr rfl))
      (Below.refl _ _) (by rintro k (h | h) <;> omega) (by rintro e x vs W' ⟨A', c, rfl, _⟩; rfl)
      (fun e pre X => Bx X w.heap.size 22 #[.slice A g.length cap] ∧ Bx X (w.heap.size + 1) 23 #[.slice B l.length cap'] ∧ Bx X (N + 1) 3 #[.int .i64 (nearR g l pre).1] ∧ (∃ A' c', Bx X N 23 #[.slice A' (nearR g l pre).2.length c'] ∧ (A' = none ↔ pre = []) ∧ X.ownsRow e 3 1 (.slice A' (nearR g l pre).2.length c') (nearR g l pre).2.length (ints (nearR g l pre).2)) ∧ Below w.heap.size w X)
      (fun _ _ _ _ => False) ?hI (fun _ _ _ _ _ h _ => h.elim) ?h0
      (fun e x a' X => ∃ A' c, X.ownsRow e 3 1 (.slice A' x.length c) x.length (ints x) ∧ a' = { tmps := #[.slice A g.length cap, .slice B l.length cap', .pointer (some ⟨w.heap.size, 0, none⟩), .pointer (some ⟨w.heap.size + 1, 0, none⟩), .int .i64 0, .slice none 0 0, .int .i64 0, .int .i64 0, .pointer (some ⟨N, 0, none⟩), .pointer (some ⟨N + 1, 0, none⟩), .slice A' x.length c, undef, .slice A g.length cap, .slice B l.length cap', .int .i64 0, .int .i64 0, .bool false, undef, .slice A g.length cap, .int .i64 n,
        .func (.func 92) #[] #[.pointer (some ⟨N + 1 + 1, 0, none⟩)], .slice A' x.length c, undef, undef, undef, undef, undef, undef, undef, undef, undef, undef, undef, undef, undef, undef, undef, undef], defers := [] })
      ?hAx ?assign ?body ?done ?stop
    case hI =>
      rintro e s X Y ⟨h0, h1, h2, ⟨A', c', h3, h4, h5⟩, hb⟩ hm
      exact ⟨h0.mod hm (fun h => by have := h.1; omega), h1.mod hm (fun h => by have := h.1; omega), h2.mod hm (fun h => by have := h.1; omega), ⟨A', c', h3.mod hm (fun h => by have := h.1; omega), h4, own_mod h5 hm (fun q hq h => by have := (h5.lt q hq).1; have := h.2; omega)⟩, hb.trans (hm.below hb.size (fun k hk h => by have := h.1; omega))⟩
    case h0 =>
      intro e X hb _ _
      exact ⟨x02.call hb, x12.call hb, x9.call hb, ⟨none, 0, x8.call hb, by simp, World.ownsRow_nil _ _ _ _⟩, bl_call hb02 hb⟩
    case hAx =>
      rintro e x a' X Y l' o ⟨A', c, hown, rfl⟩ hl' ⟨r, hr'⟩ rfl
      exact ⟨A', c, own_loop hown hr' o, rfl⟩
    case assign =>
      rintro l' e pre x vs X k he hes _ ⟨A', c, rfl, hown⟩ hk
      gi_wp2
      exact hk _ _ (Mod.refl _ X) ⟨A', c, hown, rfl⟩
    case body =>
      rintro l' e pre x a' X he hes ⟨t, hpre⟩ ⟨h0, h1, h2, ⟨A2, c2, h3, h4, h5⟩, hb⟩ ⟨A', c, hown, rfl⟩
      have hok := HVM.out x (by rw [hpre]; simp)
      have hxl : 0 < x.length := by have := hok.len; omega
      have hAs : A'.isNone = false := by
        obtain ⟨b', o', e1, _⟩ := (own_rd hown).1.at_ (k := 0) (by simpa using hxl)
        rw [e1]; rfl
      have HF := Lib.hid (fieldOf_c A A' R g x cap c X.drew hg hok (hr.later hb.drew) (own_rd hown).1)
      have hfb := field_bound hg hok
      have HJ : Hid (∀ D w4, Row w4 D (fieldL g x) → Below w.heap.size w w4 → Calls Try.prog 74 #[.slice (some ⟨D, 0, none⟩) g.length g.length, .slice B l.length cap', .func (.func 75) #[] #[]] w4 fun e w' => e = .returned (.int .i64 (farV g l x)) ∧ Below w4.heap.size w4 w') := fun D w4 hR hb4 => by
        have := farthest_c (some ⟨D, 0, none⟩) B (fieldL g x) l g.length cap' w4 (by rw [fieldL_len, HLL.out]) (by rw [fieldL_len]; omega) (fun k => ⟨small_get hfb (by decide) k, small_get hlw (by decide) k⟩) hR.rd (hs.later hb4)
        rw [fieldL_len] at this
        exact this
      have HS := Lib.hid (HNS.out pre x)
      have hfp := farV_pos g l x
      generalize farV g l x = fv at *
      generalize fieldL g x = F at *
      generalize hnr : nearR g l pre = s at *
      obtain ⟨m, u⟩ := s
      simp only [] at h2 h3 h5 HS
      have qT : ∀ (w : World) (a : Option Addr) (n c n' c' : Nat), (binOp .eql 23 (.slice a n c) (.slice none n' c')).run Try.prog w = .ok (.bool a.isNone) w := fun w a n c n' c' => Lib.run_eql_slice_nil w _ _ a n c n' c' Try.underlying23
      have hmix : Try.prog.follows .mixedOrders = true := by kernel_rfl
      have d0 : X.drew.cell? ⟨w.heap.size, 0, none⟩ = some (.slice A g.length cap) := h0.one.1
      have d1 : X.drew.cell? ⟨w.heap.size + 1, 0, none⟩ = some (.slice B l.length cap') := h1.one.1
      have hl1 := h1.lt
      generalize hul : u.length = ul at *
      have HUL := Lib.hid hul
      generalize hxx : x.length = xl at *
      have HXX := Lib.hid hxx
      clear hok hfb hpre hul hxx hnr hxl
      have HFIN : Hid (∀ w5, Below X.heap.size X w5 → (∀ (P : Prop), (pre = [] ∨ fv < m → P) → (¬ (pre = [] ∨ fv < m) → P) → P) ∧ Bx w5 w.heap.size 22 #[.slice A g.length cap] ∧ Bx w5 (w.heap.size + 1) 23 #[.slice B l.length cap'] ∧ Bx w5 (N + 1) 3 #[.int .i64 m] ∧ Bx w5 N 23 #[.slice A2 ul c2]) := fun w5 hb5 => ⟨fun P h1 h2 => (Classical.em (pre = [] ∨ fv < m)).elim h1 h2, h0.call hb5, h1.call hb5, h2.call hb5, h3.call hb5⟩
      gi_wp2_with (fail)
      gi_region_with_o (first
        | (refine ⟨trivial, ?_⟩; refine (CallsIn.inRound l' (callsIn_wide.2 HF.out)).mono ?_; rintro en w4 ⟨rfl, hR4, hb4⟩; have d14 := (hb4.cell (p := ⟨w.heap.size + 1, 0, none⟩) hl1).trans d1; have hb4X : Below w.heap.size w w4 := bl_call hb.drew hb4)
        | (refine ⟨trivial, ?_⟩; refine (CallsIn.inRound l' (callsIn_wide.2 (HJ.out _ w4 hR4 hb4X))).mono ?_; rintro en w5 ⟨rfl, hb5⟩))
      all_goals
        have hb05 : Below X.heap.size X w5 := ((Below.refl _ X).drew.trans (hb4.mono (Nat.le_refl _))).trans (hb5.mono hb4.size)
        have hb5w := bl_call hb4X hb5
        obtain ⟨_, k0, k1, k2, k3⟩ := HFIN.out w5 hb05
        have hown5 := own_call hown hb05
        have h55 := own_call h5 hb05
        obtain ⟨p2, r2⟩ := k2.one
        obtain ⟨p3, r3⟩ := k3.one
        have hm5 : Mod (fun k => ¬ (k < w.heap.size + 2 ∨ k = N + 2) ∧ ¬ zone w2.heap.size e k) X w5 := Mod.of_call hb05
        have hm6 : Mod (fun k => ¬ (k < w.heap.size + 2 ∨ k = N + 2) ∧ ¬ zone w2.heap.size e k) X ((w5.setCell ⟨N + 1, 0, none⟩ (.int .i64 fv)).setCell ⟨N, 0, none⟩ (.slice A' xl c)) := (hm5.setCell (.inr ⟨by rintro (h | h) <;> omega, fun h => by have := h.1; omega⟩) _).setCell (.inr ⟨by rintro (h | h) <;> omega, fun h => by have := h.1; omega⟩) _
        have HYES : Hid (pre = [] ∨ fv < m → Mod (fun k => ¬ (k < w.heap.size + 2 ∨ k = N + 2) ∧ ¬ zone w2.heap.size e k) X ((w5.setCell ⟨N + 1, 0, none⟩ (.int .i64 fv)).setCell ⟨N, 0, none⟩ (.slice A' xl c)) ∧ Bx ((w5.setCell ⟨N + 1, 0, none⟩ (.int .i64 fv)).setCell ⟨N, 0, none⟩ (.slice A' xl c)) w.heap.size 22 #[.slice A g.length cap] ∧ Bx ((w5.setCell ⟨N + 1, 0, none⟩ (.int .i64 fv)).setCell ⟨N, 0, none⟩ (.slice A' xl c)) (w.heap.size + 1) 23 #[.slice B l.length cap'] ∧ Bx ((w5.setCell ⟨N + 1, 0, none⟩ (.int .i64 fv)).setCell ⟨N, 0, none⟩ (.slice A' xl c)) (N + 1) 3 #[.int .i64 (nearR g l (pre ++ [x])).1] ∧ (∃ A9 c9, Bx ((w5.setCell ⟨N + 1, 0, none⟩ (.int .i64 fv)).setCell ⟨N, 0, none⟩ (.slice A' xl c)) N 23 #[.slice A9 (nearR g l (pre ++ [x])).2.length c9] ∧ (A9 = none ↔ pre ++ [x] = []) ∧ ((w5.setCell ⟨N + 1, 0, none⟩ (.int .i64 fv)).setCell ⟨N, 0, none⟩ (.slice A' xl c)).ownsRow e 3 1 (.slice A9 (nearR g l (pre ++ [x])).2.length c9) (nearR g l (pre ++ [x])).2.length (ints (nearR g l (pre ++ [x])).2)) ∧ Below w.heap.size w ((w5.setCell ⟨N + 1, 0, none⟩ (.int .i64 fv)).setCell ⟨N, 0, none⟩ (.slice A' xl c))) := fun hc => by
          rw [HS.out, if_pos hc]
          refine ⟨hm6, (k0.far (by omega) _).far (by omega) _, (k1.far (by omega) _).far (by omega) _, (k2.set1 _).far (by omega) _, ⟨A', c, ?_, ⟨fun h => (by rw [h] at hAs; cases hAs), fun h => (by simp at h)⟩, ?_⟩, bl_set (bl_set hb5w (by omega) _) (by omega) _⟩
          · show Bx _ _ _ #[.slice A' x.length c]
            rw [HXX.out]; exact (k3.far (by omega) _).set1 _
          · show World.ownsRow _ e _ 1 (.slice A' x.length c) x.length (ints x)
            rw [HXX.out]
            exact own_mod (S := fun q => q = N + 1 ∨ q = N) hown5 (((Mod.refl _ w5).setCell (.inr (.inl rfl)) _).setCell (.inr (.inr rfl)) _) (fun q hq h => by have := (hown5.lt q hq).1; omega)
        have HNOT : Hid (¬ (pre = [] ∨ fv < m) → Mod (fun k => ¬ (k < w.heap.size + 2 ∨ k = N + 2) ∧ ¬ zone w2.heap.size e k) X w5 ∧ Bx w5 w.heap.size 22 #[.slice A g.length cap] ∧ Bx w5 (w.heap.size + 1) 23 #[.slice B l.length cap'] ∧ Bx w5 (N + 1) 3 #[.int .i64 (nearR g l (pre ++ [x])).1] ∧ (∃ A' c', Bx w5 N 23 #[.slice A' (nearR g l (pre ++ [x])).2.length c'] ∧ (A' = none ↔ pre ++ [x] = []) ∧ w5.ownsRow e 3 1 (.slice A' (nearR g l (pre ++ [x])).2.length c') (nearR g l (pre ++ [x])).2.length (ints (nearR g l (pre ++ [x])).2)) ∧ Below w.heap.size w w5) := fun hc => by
          rw [HS.out, if_neg hc]
          refine ⟨hm5, k0, k1, k2, ⟨A2, c2, ?_, ?_, ?_⟩, hb5w⟩
          · show Bx _ _ _ #[.slice A2 u.length c2]
            rw [HUL.out]; exact k3
          · have hne : pre ≠ [] := fun h => hc (.inl h)
            rw [h4]; simp [hne]
          · show World.ownsRow _ e _ 1 (.slice A2 u.length c2) u.length (ints u)
            rw [HUL.out]; exact h55
        clear hm5 hm6 HF HJ HS HNS HFIN d0 d1 hown hown5 h5 h55 h0 h1 h2 h3 k0 k1 k2 k3 hR4
        by_cases hp : pre = []
        · have hy := HYES.out (.inl hp)
          have h4' : A2.isNone = true := by rw [h4.2 hp]; rfl
          clear HYES HNOT h4
          gi_wp2_with (fail)
          exact ⟨by first | exact hy.1 | (rw [← hs2]; exact hy.1) | (have h9 := hy.1; rw [hs2] at h9; exact h9), hy.2.1, hy.2.2.1, hy.2.2.2.1, hy.2.2.2.2.1, hy.2.2.2.2.2⟩
        · have h4' : A2.isNone = false := by rcases hq : A2.isNone with _ | _; rfl; exact absurd (h4.1 (Option.isNone_iff_eq_none.1 hq)) hp
          by_cases hlt : fv < m
          · have hy := HYES.out (.inr hlt)
            clear HYES HNOT h4
            gi_wp2_with (fail)
            exact ⟨by first | exact hy.1 | (rw [← hs2]; exact hy.1) | (have h9 := hy.1; rw [hs2] at h9; exact h9), hy.2.1, hy.2.2.1, hy.2.2.2.1, hy.2.2.2.2.1, hy.2.2.2.2.2⟩
          · have hy := HNOT.out (by rintro (h | h); exact hp h; exact hlt h)
            clear HYES HNOT h4
            gi_wp2_with (fail)
            exact ⟨by first | exact hy.1 | (rw [← hs2]; exact hy.1) | (have h9 := hy.1; rw [hs2] at h9; exact h9), hy.2.1, hy.2.2.1, hy.2.2.2.1, hy.2.2.2.2.1, hy.2.2.2.2.2⟩
    case stop =>
      intro D e c pre X _ _ _ _ h
      exact h.elim
    case done =>
      rintro D e X hD hDe hes ⟨h0, h1, h2, ⟨A2, c2, h3, h4, h5⟩, hb⟩ hK
      rw [HCG.out] at h2 h3 h5
      obtain ⟨y0, z0⟩ := h2.one
      obtain ⟨y1, z1⟩ := h3.one
      obtain ⟨m, u⟩ := res
      simp only [] at y0 y1 h5
      have hmix : Try.prog.follows .mixedOrders = true := by kernel_rfl
      have hrd := (own_rd h5).1
      have hbl := (own_rd h5).2
      generalize hul : u.length = ul at *
      have HUL := Lib.hid hul
      clear hul
      gi_wp2_with (fail)
      gi_big_quiet_th_o (fail)
      all_goals
        gi_wp2_with (fail)
        refine ⟨by simp, .inl ⟨_, _, rfl, run_takeDeferred (w := X.drewN nq) hK, ?_⟩⟩
        refine ⟨_, results_tmp3 rfl _ _ _, A2, ⟨c2, by show _ = Ending.returned (.tuple #[_, .slice A2 u.length c2, _]); rw [HUL.out]; rfl⟩, ?_, bl_put (below_drewN hb _) (by omega) _⟩
        exact (hrd.later (below_drewN (Below.refl _ X) nq)).mod (S := fun q => q = D) ((Mod.refl (fun q => q = D) _).putObj (.inr rfl) _) (fun ad h1 h2 _ h => by have := hbl ad h1; have h3 : ad.block = D := h; omega)

  · have hW' : wayB g l = false := by simpa using hW
    have hz : nearG g l = (0, []) := by unfold nearG; rw [if_neg hW]
    rw [hW'] at HV ⊢
    rw [hz]
    clear hz
    go_enter Try.func35, Try.ntmps35
    go_wp2_with (fail)
    refine HV.out.mono ?_
    rintro e w1 ⟨rfl, hb1⟩
    rw [errB_f]
    go_wp2_with (fail)
    go_ret3
    exact ⟨none, 0, rfl, .inl rfl, bl_call hbb hb1⟩
end Go.Proofs.Ytnofeibgnlkkcaa
