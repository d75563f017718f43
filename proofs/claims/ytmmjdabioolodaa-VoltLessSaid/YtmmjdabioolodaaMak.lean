/- The voltages that make a wish, one after another: package volt's iterator. -/
import Derived.Test.YtmmjdabioolodaaNum
namespace Go.Proofs.Ytmmjdabioolodaa
open Go.RowKit Go.Shelf
attribute [local go_sem] Oper.semAt_some

theorem own_loop {w : World} {base e size n : Nat} {v : Value} {xs : List Value} (h : w.ownsRow base e size v n xs) {l : Nat} {r : Loop} (hl : w.heap[l]? = some (.loop r)) (o : Obj) : (w.putObj l o).ownsRow base e size v n xs := by
  refine own_mod (S := fun k => k = l) h ((Mod.refl (fun k => k = l) w).putObj (.inr rfl) o) ?_
  rintro k hk rfl
  rcases h.2 with ⟨rfl, _⟩ | ⟨g, cap, cur, rfl, _, hg, _⟩
  · cases hk
  · cases hk; rw [hl] at hg; cases hg
theorem EncV.call {b : Nat} {x : List Int} {vs : Array Value} {w w' : World} (h : EncV b x vs w) (hb : Below w.heap.size w w') : EncV b x vs w' := by
  obtain ⟨A, c, rfl, h⟩ := h
  exact ⟨A, c, rfl, own_call h hb⟩
theorem makers_c (A B : Option Addr) (n cap m cap' : Nat) (w : World) :
    Calls Try.prog 68 #[.slice A n cap, .slice B m cap'] w fun e w' => e = .returned (.func (.func 91) #[] #[.pointer (some ⟨w.heap.size, 0, none⟩), .pointer (some ⟨w.heap.size + 1, 0, none⟩)]) ∧
      (w.alloc (.cells #[.slice A n cap] 22)).alloc (.cells #[.slice B m cap'] 23) = w' := by
  go_enter Try.func68, Try.ntmps68
  go_wp2
  go_ret
  exact ⟨rfl, rfl⟩
theorem filter_snoc {x : List Int} {pre : List (List Int)} (c : List Int → Bool) : (pre ++ [x]).filter c = pre.filter c ++ (if c x = true then [x] else []) := by
  rw [List.filter_append]
  cases h : c x <;> simp [h]
theorem filter_pre {α : Type} (c : α → Bool) {xs pre t : List α} {x : α} (h : xs = pre ++ x :: t) (hx : c x = true) : xs.filter c = pre.filter c ++ x :: t.filter c := by
  rw [h, List.filter_append, List.filter_cons, if_pos hx]
set_option maxRecDepth 100000 in
set_option maxHeartbeats 4000000 in
theorem makers_iter (wN w : World) (A B : Option Addr) (R : Rows) (g : List (List Int)) (l : List Int) (cap cap' Bg Bw : Nat) (K : Nat → Prop) (hg : OkG g) (hbN : Below wN.heap.size wN w) (hT : RT wN A R g) (hL : Rd w B (ints l))
    (hBg : Bg < w.heap.size) (hBw : Bw < w.heap.size) (hcg : w.cell? ⟨Bg, 0, none⟩ = some (.slice A g.length cap)) (hcw : w.cell? ⟨Bw, 0, none⟩ = some (.slice B l.length cap'))
    (hK : ∀ k, k < wN.heap.size → K k) (hKg : K Bg) (hKw : K Bw) (hKlt : ∀ k, K k → k < w.heap.size) (hKB : ∀ a, B = some a → ints l ≠ [] → K a.block) :
    Iter Try.prog 91 #[.pointer (some ⟨Bg, 0, none⟩), .pointer (some ⟨Bw, 0, none⟩)] EncV (makersL g l) K w := by
  intro n' ly J Jx W hW hJ hJx hY h0
  have hgW := (hW.cell (p := ⟨Bg, 0, none⟩) hBg).trans hcg
  have hwW := (hW.cell (p := ⟨Bw, 0, none⟩) hBw).trans hcw
  have hNW : Below wN.heap.size wN W := bl_call hbN hW
  have hLW := hL.later hW
  have hsW := hW.size
  replace hKlt : ∀ k, K k → k < W.heap.size := fun a h => Nat.lt_of_lt_of_le (hKlt _ h) hW.size
  have hBgW := Nat.lt_of_lt_of_le hBg hW.size
  have hBwW := Nat.lt_of_lt_of_le hBw hW.size
  have hwr := hg.wrs
  have hpt := hg.pts
  clear hcg hcw hBg hBw hbN
  refine callsIn_of_wp_marks Try.func91 rfl trivial ?_ rfl
  simp only [Try.ntmps91, List.size_toArray, List.length_cons, List.length_nil, Nat.reduceAdd, Nat.reduceSub, Array.replicate_succ, Array.replicate_zero, List.push_toArray, List.append_toArray, List.nil_append, List.cons_append]
  have hb0 : Below W.heap.size W (W.alloc (.cells #[.func (.yield ly) #[] #[]] 25)) := bl_alloc (Below.refl _ _) _
  have HWO := Lib.hid (wiresOf_c A R g cap (W.alloc (.cells #[.func (.yield ly) #[] #[]] 25)) (by omega) (hT.later (bl_call hNW hb0)))
  have HWL : Hid (∀ n, wires g = n → makersL g l = (voltsL n).filter (makeB g l)) := fun n h => by rw [← h]; rfl
  obtain ⟨n, hn⟩ : ∃ n, wires g = n := ⟨_, rfl⟩
  have HM := Lib.hid (HWL.out n hn)
  have HVL : Hid (∀ v, v ∈ voltsL n → OkV v (wires g) 3) := fun v hv => by rw [hn]; exact mem_volts.1 hv
  have hn3 : n ≤ 3 := by omega
  rw [hn] at HWO
  clear HWL hwr hn
  gi_wp2_with (fail)
  refine ⟨trivial, wide_n _, ?_⟩
  refine (callsIn_wide.2 HWO.out).mono ?_
  rintro en w1 ⟨rfl, rfl⟩
  gi_wp2_with (fail)
  refine ⟨trivial, wide_n _, ?_⟩
  refine (callsIn_wide.2 (voltages_c _ _)).mono ?_
  rintro en w1 ⟨rfl, hw1⟩
  simp only [World.size_alloc] at *
  have hb1 : Below W.heap.size W w1 := by rw [← hw1]; exact bl_alloc (bl_alloc (Below.refl _ _) _) _
  have hs1 : w1.heap.size = W.heap.size + 2 := by rw [← hw1]; simp
  have x0 : Bx w1 W.heap.size 25 #[.func (.yield ly) #[] #[]] := by rw [← hw1]; exact (Bx.newAt rfl).alloc _
  have x1 : Bx w1 (W.heap.size + 1) 3 #[.int .i64 n] := by rw [← hw1]; exact Bx.newAt (by simp)
  clear hw1 hb0 HWO
  gi_wp2_with (fail)
  refine wp_range (n := n') (gf := 92) (lb := #[.pointer (some ⟨W.heap.size + 1, 0, none⟩)]) rfl (enters_of Try.func92 (by kernel_rfl) rfl)
    (voltages_iter w1 n hn3 (W.heap.size + 1) (fun k => K k ∨ (W.heap.size ≤ k ∧ k < W.heap.size + 2)) (by omega) x1.one.1 (.inr ⟨by omega, by omega⟩))
    (Below.refl _ _) (by rintro k (h | h); have := hKlt k h; omega; omega) (by rintro e x vs W' ⟨A, c, rfl, _⟩; rfl)
    (fun e pre X => J e (pre.filter (makeB g l)) X ∧ Bx X W.heap.size 25 #[.func (.yield ly) #[] #[]] ∧ X.cell? ⟨Bg, 0, none⟩ = some (.slice A g.length cap) ∧ X.cell? ⟨Bw, 0, none⟩ = some (.slice B l.length cap') ∧ Rd X B (ints l) ∧ Below wN.heap.size wN X)
    (fun e c pre X => c = .ret ∧ Jx e (pre.filter (makeB g l)) X) ?hI ?hIx ?h0
    (fun e x a' X => ∃ A' c, X.ownsRow e 3 1 (.slice A' x.length c) x.length (ints x) ∧ a' = { tmps := #[.func (.yield ly) #[] #[], .pointer (some ⟨Bg, 0, none⟩), .pointer (some ⟨Bw, 0, none⟩), .pointer (some ⟨W.heap.size, 0, none⟩), .slice A' x.length c, .slice A g.length cap, .int .i64 n,
      .func (.func 92) #[] #[.pointer (some ⟨W.heap.size + 1, 0, none⟩)], .slice A' x.length c, undef, undef, undef, undef, undef, undef, undef, undef, undef, undef, undef], defers := [] })
    ?hAx ?assign ?body ?done ?stop
  case hI =>
    rintro e s X Y ⟨hj, hx, hc, hd, hrd, hbX⟩ hm
    refine ⟨hJ _ _ _ _ hj (hm.weak fun k h => ⟨by have := h.1; omega, h.2⟩), hx.mod hm (fun h => by have := h.1; omega), ?_, ?_, hrd.mod hm (fun a e1 h _ hz => by have := hKlt _ (hKB a e1 h); have := hz.1; omega), ?_⟩
    · exact (hm.cell (p := ⟨Bg, 0, none⟩) (World.block_lt_of_cell? X _ hc) (fun h => by have h1 : w1.heap.size ≤ Bg := h.1; omega)).trans hc
    · exact (hm.cell (p := ⟨Bw, 0, none⟩) (World.block_lt_of_cell? X _ hd) (fun h => by have h1 : w1.heap.size ≤ Bw := h.1; omega)).trans hd
    · exact hbX.trans (hm.below hbX.size (fun k hk h => by have := h.1; have := hNW.size; omega))
  case hIx =>
    rintro e c s X Y ⟨hc, hj⟩ hm
    exact ⟨hc, hJx _ _ _ _ hj (hm.weak fun k h => ⟨by have := h.1; omega, h.2⟩)⟩
  case h0 =>
    intro e X hb he hes
    exact ⟨h0 e X (bl_call hb1 hb) (by omega) hes, x0.call hb, (hb.cell (p := ⟨Bg, 0, none⟩) (by show Bg < w1.heap.size; omega)).trans ((hb1.cell (p := ⟨Bg, 0, none⟩) hBgW).trans hgW), (hb.cell (p := ⟨Bw, 0, none⟩) (by show Bw < w1.heap.size; omega)).trans ((hb1.cell (p := ⟨Bw, 0, none⟩) hBwW).trans hwW), (hLW.later hb1).later hb, bl_call (bl_call hNW hb1) hb⟩
  case hAx =>
    rintro e x a' X Y l' o ⟨A', c, hown, rfl⟩ hl' ⟨r, hr'⟩ rfl
    exact ⟨A', c, own_loop hown hr' o, rfl⟩
  case assign =>
    rintro l' e pre x vs X k he hes _ ⟨A', c, rfl, hown⟩ hk
    gi_wp2
    exact hk _ _ (Mod.refl _ X) ⟨A', c, hown, rfl⟩
  case body =>
    rintro l' e pre x a' X he hes ⟨t, hpre⟩ ⟨hj, hx, hc, hd, hrX, hbX⟩ ⟨A', c, hown, rfl⟩
    have hxv := HVL.out x (by rw [hpre]; simp)
    have hxl : x.length ≤ 3 := by have := hxv.len; have := hg.wrs; omega
    have hrx := (own_rd hown).1
    have HF := Lib.hid (fieldOf_c A A' R g x cap c X.drew hg hxv (hT.later hbX.drew) hrx)
    have HFS : Hid ((pre ++ [x]).filter (makeB g l) = pre.filter (makeB g l) ++ (if makeB g l x = true then [x] else [])) := filter_snoc _
    have HP : Hid (makeB g l x = true → ∃ t, makersL g l = pre.filter (makeB g l) ++ x :: t) := fun h => ⟨t.filter (makeB g l), by rw [HM.out]; exact filter_pre _ hpre h⟩
    have HE : Hid (∀ D w4, Row w4 D (fieldL g x) → Rd w4 B (ints l) → Calls Try.prog 66 #[.slice (some ⟨D, 0, none⟩) g.length g.length, .slice B l.length cap'] w4 fun e w' => e = .returned (.bool (makeB g l x)) ∧ Below w4.heap.size w4 w') := fun D w4 hR hl4 => by
      have := equal_c (some ⟨D, 0, none⟩) B (fieldL g x) l g.length cap' w4 (by simp; omega) hR.rd hl4
      rw [fieldL_len] at this
      have e : decide (fieldL g x = l) = makeB g l x := by unfold makeB; rw [Bool.eq_iff_iff]; simp
      rw [e] at this
      exact this
    generalize fieldL g x = F at HF HE
    clear hxv
    generalize makeB g l x = b at HFS HP HE
    have hmix : Try.prog.follows .mixedOrders = true := by kernel_rfl
    have c1 : X.drew.cell? ⟨Bg, 0, none⟩ = some (.slice A g.length cap) := hc
    have c2 : X.drew.cell? ⟨Bw, 0, none⟩ = some (.slice B l.length cap') := hd
    have hBwX := World.block_lt_of_cell? X _ hd
    have hBgX := World.block_lt_of_cell? X _ hc
    cases b with
    | false =>
      gi_wp2_with (fail)
      gi_region_with_o (first
        | (refine ⟨trivial, wide_n _, ?_⟩; refine (CallsIn.inRound l' (callsIn_wide.2 HF.out)).mono ?_; rintro en w4 ⟨rfl, hR4, hb4⟩; have c4 := (hb4.cell (p := ⟨Bw, 0, none⟩) hBwX).trans c2; have hb4X : Below wN.heap.size wN w4 := bl_call hbX.drew hb4)
        | (refine ⟨trivial, wide_n _, ?_⟩; refine (CallsIn.inRound l' (callsIn_wide.2 (HE.out _ w4 hR4 (Rd.later (w := X.drew) hrX hb4)))).mono ?_; rintro en w5 ⟨rfl, hb5⟩)
        | (refine ⟨fun _ h => (by cases h), ?_⟩))
      all_goals
        have hb5X := bl_call (bl_call hbX.drew hb4) hb5
        have hb45 : Below X.heap.size X w5 := ((Below.refl _ X).drew.trans (hb4.mono (Nat.le_refl _))).trans (hb5.mono hb4.size)
        gi_wp2_with (fail)
        exact ⟨Mod.of_call hb45, by rw [HFS.out]; simpa using hJ _ _ _ _ hj (Mod.of_call hb45), hx.call hb45, (hb45.cell (p := ⟨Bg, 0, none⟩) hBgX).trans hc, (hb45.cell (p := ⟨Bw, 0, none⟩) hBwX).trans hd, hrX.later hb45, hb5X⟩
    | true =>
      have HYW : Hid (∀ w5, Below X.heap.size X w5 → YieldAt Fence.wide (n' - 1) Try.prog ly #[.slice A' x.length c] w5 fun en W' => Mod (fun k => ¬ K k ∧ ¬ zone W.heap.size e k) w5 W' ∧ ∃ r : Bool, en = .returned (.bool r) ∧ (if r = true then J e ((pre ++ [x]).filter (makeB g l)) W' else Jx e ((pre ++ [x]).filter (makeB g l)) W')) := fun w5 hb5 => by
        obtain ⟨fn, tmps, assign, body, hy, hR⟩ := hY _ _ x #[.slice A' x.length c] w5 (hJ _ _ _ _ hj (Mod.of_call hb5)) (Nat.le_trans hes hb5.size) (HP.out rfl) ⟨A', c, rfl, own_call hown hb5⟩
        refine ⟨fn, tmps, assign, body, hy, hR.mono ?_⟩
        rw [HFS.out, if_pos rfl]
        rintro en W3 ⟨hm3, ⟨rfl, hJ3⟩ | ⟨rfl, hJ3⟩⟩
        · exact ⟨hm3, true, rfl, by rw [if_pos rfl]; exact hJ3⟩
        · exact ⟨hm3, false, rfl, by rw [if_neg (by decide)]; exact hJ3⟩
      have HFIN : Hid (∀ w5 w6, Below X.heap.size X w5 → Mod (fun k => ¬ K k ∧ ¬ zone W.heap.size e k) w5 w6 →
          Mod (fun k => ¬ (K k ∨ (W.heap.size ≤ k ∧ k < W.heap.size + 2)) ∧ ¬ zone (W.heap.size + 2) e k) X w6 ∧ Bx w6 W.heap.size 25 #[.func (.yield ly) #[] #[]] ∧ w6.cell? ⟨Bg, 0, none⟩ = some (.slice A g.length cap) ∧ w6.cell? ⟨Bw, 0, none⟩ = some (.slice B l.length cap') ∧ Rd w6 B (ints l) ∧ Below wN.heap.size wN w6) := fun w5 w6 hb5 hm6 => by
        refine ⟨(Mod.of_call hb5).trans (hm6.weak fun k h => ⟨fun h' => ?_, fun hz => h.2 ⟨by have := hz.1; omega, hz.2⟩⟩), (hx.call hb5).mod hm6 (fun h => h.2 ⟨Nat.le_refl _, by omega⟩), ?_, ?_, (hrX.later hb5).mod hm6 (fun a e1 h _ hz => hz.1 (hKB a e1 h)), ?_⟩
        · rcases h' with h' | h'
          · exact h.1 h'
          · exact h.2 ⟨h'.1, by omega⟩
        · exact (hm6.cell (p := ⟨Bg, 0, none⟩) (Nat.lt_of_lt_of_le hBgX hb5.size) (fun h => h.1 hKg)).trans ((hb5.cell (p := ⟨Bg, 0, none⟩) hBgX).trans hc)
        · exact (hm6.cell (p := ⟨Bw, 0, none⟩) (Nat.lt_of_lt_of_le hBwX hb5.size) (fun h => h.1 hKw)).trans ((hb5.cell (p := ⟨Bw, 0, none⟩) hBwX).trans hd)
        · exact (bl_call hbX hb5).trans (hm6.below (Nat.le_trans hbX.size hb5.size) (fun k hk h => h.1 (hK k hk)))
      clear HFS HP hY
      gi_wp2_with (fail)
      gi_region_with_o (first
        | (refine ⟨trivial, wide_n _, ?_⟩; refine (CallsIn.inRound l' (callsIn_wide.2 HF.out)).mono ?_; rintro en w4 ⟨rfl, hR4, hb4⟩; have c4 := (hb4.cell (p := ⟨Bw, 0, none⟩) hBwX).trans c2; have hb4X : Below wN.heap.size wN w4 := bl_call hbX.drew hb4)
        | (refine ⟨trivial, wide_n _, ?_⟩; refine (CallsIn.inRound l' (callsIn_wide.2 (HE.out _ w4 hR4 (Rd.later (w := X.drew) hrX hb4)))).mono ?_; rintro en w5 ⟨rfl, hb5⟩; have hb45 : Below X.heap.size X w5 := ((Below.refl _ X).drew.trans (hb4.mono (Nat.le_refl _))).trans (hb5.mono hb4.size); have hx5 := (hx.call hb45).one; obtain ⟨fn, tmps, assign, body, hy, hR⟩ := HYW.out w5 hb45; have hR' := round_any (m := n' - 1 - 1 - 1) (l' := l') hR)
        | (refine ⟨wide_n _, ?_⟩; refine hR'.mono ?_; rintro en w6 ⟨hm6, r, rfl, hj6⟩))
      all_goals
        obtain ⟨m1, m2, m3, m4, m4', m5⟩ := HFIN.out w5 w6 hb45 hm6
        clear hm6 hR' hR hy HFIN HYW HE HF hR4 hc hd c1 c2 hx
        cases r with
        | true =>
          gi_wp2_with (fail)
          first
            | exact ⟨m1, hj6, m2, m3, m4, m4', m5⟩
            | (refine ⟨?_, ?_, m2, m3, m4, m4', m5⟩
               · exact m1.weak fun k h => h
               · exact hj6)
            | (refine ⟨?_, ?_, m2, m3, m4, m4', m5⟩
               · exact m1.weak fun k h => ⟨h.1, by rw [hs1]; exact h.2⟩
               · simpa using hj6)
        | false =>
          gi_wp2_with (fail)
          first
            | exact ⟨m1, rfl, hj6⟩
            | (refine ⟨?_, rfl, ?_⟩
               · exact m1.weak fun k h => h
               · exact hj6)
            | (refine ⟨?_, rfl, ?_⟩
               · exact m1.weak fun k h => ⟨h.1, by rw [hs1]; exact h.2⟩
               · simpa using hj6)
  case stop =>
    rintro D e c pre X hD hDe hes ⟨t, hpre⟩ ⟨rfl, hj⟩ hK
    gi_wp2
    refine ⟨by simp, .inl ⟨_, _, rfl, run_takeDeferred hK, ?_⟩⟩
    refine ⟨_, results_none rfl _ _ _, ⟨_, rfl⟩, e, by rw [World.putObj_size]; exact hes, .inr ⟨_, ⟨_, by rw [HM.out, hpre, List.filter_append]⟩, hJx _ _ _ _ hj ((Mod.refl _ _).putObj (.inr ⟨by omega, hDe⟩) _)⟩⟩
  case done =>
    rintro D e X hD hDe hes ⟨hj, _⟩ hK
    gi_wp2
    refine ⟨by simp, .inl ⟨_, _, rfl, run_takeDeferred hK, ?_⟩⟩
    refine ⟨_, results_none rfl _ _ _, ⟨_, rfl⟩, e, by rw [World.putObj_size]; exact hes, .inl (by rw [HM.out]; exact hJ _ _ _ _ hj ((Mod.refl _ _).putObj (.inr ⟨by omega, hDe⟩) _))⟩
end Go.Proofs.Ytmmjdabioolodaa
