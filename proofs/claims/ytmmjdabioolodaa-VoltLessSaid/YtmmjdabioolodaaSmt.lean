/- The smoothest course of a row of wishes: package volt's search. -/
import Derived.Test.YtmmjdabioolodaaMrk
namespace Go.Proofs.Ytmmjdabioolodaa
open Go.RowKit Go.Shelf
attribute [local go_sem] Oper.semAt_some

/-- What is found: a course, and whether there is one. -/
def OutB (g row : List (List Int)) (w : World) (e : Ending) (w' : World) : Prop :=
  ∃ A' c' S, e = .returned (.tuple #[.agg #[.slice A' (bestC g row).1.length c', .int .i64 (bestC g row).2], .bool (eachB g row)]) ∧ RT w' A' S (bestC g row).1 ∧ (bestC g row).1.length ≤ c' ∧ Below w.heap.size w w'
theorem each_succ {g row : List (List Int)} {k : Nat} (h : eachTo g row k = true) (h2 : 0 < (makersL g (row.getD k [])).length) : eachTo g row (k + 1) = true := by
  unfold eachTo at h ⊢
  rw [allTo, h, decide_eq_true h2]; rfl
theorem each_not {g row : List (List Int)} {k : Nat} (hk : k < row.length) (h2 : (makersL g (row.getD k [])).length = 0) : eachB g row = false :=
  allTo_no hk (decide_eq_false (by omega))
set_option maxRecDepth 100000 in
set_option maxHeartbeats 8000000 in
theorem smoothest_c (A B : Option Addr) (R T : Rows) (g row : List (List Int)) (cap cap' : Nat) (w : World) (hg : OkG g) (hrow : OkR g row) (hr : RT w A R g) (hs : RT w B T row) :
    Calls Try.prog 88 #[.slice A g.length cap, .slice B row.length cap'] w (OutB g row w) := by
  have hw3 := hg.wrs
  have hpt := hg.pts
  obtain ⟨b1, o1, rfl, hb1l, HR⟩ := hs.all_ (by have := hrow.len; omega)
  replace HR := Lib.hid HR
  have HNO : Hid (∀ w', eachB g row = false → Below w.heap.size w w' → OutB g row w (.returned (.tuple #[.agg #[.slice none 0 0, .int .i64 0], .bool false])) w') := fun w' h1 h2 => by
    refine ⟨none, 0, fun _ => (none, 0), ?_, ?_, ?_, h2⟩
    · rw [best_no h1, h1]; rfl
    · rw [best_no h1]; exact ⟨.inl rfl, fun k hk => by simp at hk⟩
    · rw [best_no h1]; simp
  have HYES : Hid (∀ (V : Rows) (S : Nat → Rows) (w' : World), eachTo g row row.length = true → CtO w' V S (crsTo g row row.length) → Below w.heap.size w w' → OutB g row w (.returned (.tuple #[.agg #[.slice (V (minI (crsTo g row row.length) ((crsTo g row row.length).length - 1))).1 (minL (crsTo g row row.length)).1.length (V (minI (crsTo g row row.length) ((crsTo g row row.length).length - 1))).2, .int .i64 (minL (crsTo g row row.length)).2], .bool true])) w') := fun V S w' h1 h2 h3 => by
    have hb : bestC g row = minL (crsTo g row row.length) := by unfold bestC; rw [if_pos (show eachB g row = true from h1)]
    have hp := crs_pos (eachTo_iff.1 h1)
    obtain ⟨m1, m2⟩ := minI_ok (cs := crsTo g row row.length) ((crsTo g row row.length).length - 1)
    have hmn : minL (crsTo g row row.length) = (crsTo g row row.length).getD (minI (crsTo g row row.length) ((crsTo g row row.length).length - 1)) crsD := m2
    have hct := h2.ct (A := none) (V := V) (S := S) (cs := crsTo g row row.length)
    refine ⟨(V (minI (crsTo g row row.length) ((crsTo g row row.length).length - 1))).1, (V (minI (crsTo g row row.length) ((crsTo g row row.length).length - 1))).2, S (minI (crsTo g row row.length) ((crsTo g row row.length).length - 1)), ?_, ?_, ?_, h3⟩
    · rw [hb, show eachB g row = true from h1]
    · rw [hb, hmn]
      exact ⟨(own_rd (h2.top _ (by omega))).1, fun k hk => (own_rd (h2.row _ k (by omega) hk)).1⟩
    · rw [hb, hmn]
      exact own_cap (h2.top _ (by omega))
  generalize OutB g row w = FO at HNO HYES ⊢
  have hrl := hrow.len
  have hll : ∀ k, k < row.length → (row.getD k []).length ≤ 1000 := fun k hk => by have := (hrow.row k hk).len; omega
  have HCL := Lib.hid (crs_len (g := g) (row := row) hw3.2)
  have HCA := fun k h1 h2 => Lib.hid (@crs_all g row k h1 hrl.2 h2)
  have HCS : Hid (∀ k, crsTo g row (k + 1) = (makersL g (row.getD k [])).map (smoothTo (crsTo g row k))) := fun k => rfl
  have HC0 : Hid (crsTo g row 0 = [([], 0)]) := rfl
  have hx0 : Bx (((w.alloc (.cells #[.slice none 0 0, .int .i64 0] 92)).alloc (.cells #[.slice none 0 0, .int .i64 0] 92)).alloc (.cells #[.slice (some ⟨w.heap.size + 1, 0, none⟩) 1 1] 97)) w.heap.size 92 #[.slice none 0 0, .int .i64 0] := ((Bx.newAt rfl).alloc _).alloc _
  have hx2 : Bx (((w.alloc (.cells #[.slice none 0 0, .int .i64 0] 92)).alloc (.cells #[.slice none 0 0, .int .i64 0] 92)).alloc (.cells #[.slice (some ⟨w.heap.size + 1, 0, none⟩) 1 1] 97)) (w.heap.size + 2) 97 #[.slice (some ⟨w.heap.size + 1, 0, none⟩) 1 1] := Bx.newAt (by simp)
  have hx1 : Bx (((w.alloc (.cells #[.slice none 0 0, .int .i64 0] 92)).alloc (.cells #[.slice none 0 0, .int .i64 0] 92)).alloc (.cells #[.slice (some ⟨w.heap.size + 1, 0, none⟩) 1 1] 97)) (w.heap.size + 1) 92 #[.slice none 0 0, .int .i64 0] := (Bx.newAt (by simp)).alloc _
  have hbb := bl_alloc (bl_alloc (bl_alloc (Below.refl w.heap.size w) (.cells #[.slice none 0 0, .int .i64 0] 92)) (.cells #[.slice none 0 0, .int .i64 0] 92)) (.cells #[.slice (some ⟨w.heap.size + 1, 0, none⟩) 1 1] 97)
  have hsz : (((w.alloc (.cells #[.slice none 0 0, .int .i64 0] 92)).alloc (.cells #[.slice none 0 0, .int .i64 0] 92)).alloc (.cells #[.slice (some ⟨w.heap.size + 1, 0, none⟩) 1 1] 97)).heap.size = w.heap.size + 3 := by simp
  have hrd1 : Rd (((w.alloc (.cells #[.slice none 0 0, .int .i64 0] 92)).alloc (.cells #[.slice none 0 0, .int .i64 0] 92)).alloc (.cells #[.slice (some ⟨w.heap.size + 1, 0, none⟩) 1 1] 97)) (some ⟨w.heap.size + 1, 0, none⟩) (cellsC (fun _ => (none, 0)) [([], 0)]) := Bx.rd (cs := [.slice none 0 0, .int .i64 0]) hx1
  have hct0 : CtO (((w.alloc (.cells #[.slice none 0 0, .int .i64 0] 92)).alloc (.cells #[.slice none 0 0, .int .i64 0] 92)).alloc (.cells #[.slice (some ⟨w.heap.size + 1, 0, none⟩) 1 1] 97)) (fun _ => (none, 0)) (fun _ _ => (none, 0)) [([], 0)] := ⟨fun i hi => by
      obtain rfl : i = 0 := by simp at hi; omega
      exact World.ownsRow_nil _ _ _ _, fun i k hi hk => by
      obtain rfl : i = 0 := by simp at hi; omega
      simp at hk⟩
  refine (callsIn_wide (n := 9)).1 ?_
  refine callsIn_of_wp_marks Try.func88 rfl trivial ?_ rfl
  simp only [Try.ntmps88, List.size_toArray, List.length_cons, List.length_nil, Nat.reduceAdd, Nat.reduceSub, Array.replicate_succ, Array.replicate_zero, List.push_toArray, List.append_toArray, List.nil_append, List.cons_append]
  gi_wp2_with (fail)
  clear hx1
  generalize ((w.alloc (.cells #[.slice none 0 0, .int .i64 0] 92)).alloc (.cells #[.slice none 0 0, .int .i64 0] 92)).alloc (.cells #[.slice (some ⟨w.heap.size + 1, 0, none⟩) 1 1] 97) = w0 at *
  refine wpIn_loop_ghost_k (fun gk a wr => ∃ (k : Nat) (A' : Option Addr) (c' : Nat) (V : Rows) (S : Nat → Rows) (ds : List Deferred) (u5 u8 u9 u10 u15 u16 u17 u18 u19 u20 u21 u23 u24 u25 u26 u27 u28 u29 u30 u31 u32 u33 u34 : Value), (Hid (k + gk = row.length) ∧ u15 = .int .i64 (k : Int) ∧ Bx wr w.heap.size 92 #[.slice none 0 0, .int .i64 0] ∧ Bx wr (w.heap.size + 2) 97 #[.slice A' (crsTo g row k).length c'] ∧ Rd wr A' (cellsC V (crsTo g row k)) ∧ CtO wr V S (crsTo g row k) ∧ Hid (eachTo g row k = true) ∧ Marks w.heap.size ds wr ∧ Below w.heap.size w wr) ∧ a = { tmps := #[.slice A g.length cap, .slice (some ⟨b1, o1, none⟩) row.length cap', undef, undef, .pointer (some ⟨w.heap.size, 0, none⟩), u5, .pointer (some ⟨w.heap.size + 1 + 1, 0, none⟩), undef, u8, u9, u10, .agg #[.slice none 0 0, .int .i64 0], .slice (some ⟨w.heap.size + 1, 0, none⟩) 1 1, .slice (some ⟨b1, o1, none⟩) row.length cap', .int .i64 row.length, u15, u16, u17, u18, u19, u20, u21, undef, u23, u24, u25, u26, u27, u28, u29, u30, u31, u32, u33, u34, undef, undef], defers := ds }) row.length ?start ?round
  case start => exact ⟨0, _, 1, _, _, [], _, _, _, _, _, _, _, _, _, _, _, _, _, _, _, _, _, _, _, _, _, _, _, ⟨by simp [Hid], rfl, hx0, by rw [HC0.out]; exact hx2, by rw [HC0.out]; exact hrd1, by rw [HC0.out]; exact hct0, rfl, trivial, hbb⟩, rfl⟩
  case round =>
    clear hx0 hx2 hrd1 hct0 hbb
    intro gk a wr hinv
    obtain ⟨k, A', c', V, S, ds, u5, u8, u9, u10, u15, u16, u17, u18, u19, u20, u21, u23, u24, u25, u26, u27, u28, u29, u30, u31, u32, u33, u34, ⟨HK, h15, hx0, hx2, hrd, hct, hall, hmk, hb⟩, ha⟩ := hinv
    subst ha
    subst h15
    intro J K hJ hK'
    rcases gk with _ | gi
    · obtain rfl : k = row.length := HK.out
      have hcp := crs_pos (eachTo_iff.1 hall.out)
      have HMF := Lib.hid (minFunc_c A' V S (crsTo g row row.length) c' wr hcp (by have := HCL.out row.length; omega) (hct.ct hrd))
      have HY := Lib.hid (fun w' => HYES.out V S w' hall.out)
      generalize crsTo g row row.length = cs at *
      generalize hmm : (minL cs).1.length = mm at *
      generalize hmj : (minL cs).2 = mj at *
      generalize hmi : minI cs (cs.length - 1) = mi at *
      have HMM := Lib.hid (And.intro hmm (And.intro hmj hmi))
      clear hmm hmj hmi
      obtain ⟨a1, a2⟩ := hx2.one
      gi_wp2_with (fail)
      refine ⟨trivial, ?_⟩
      refine (callsIn_wide.2 HMF.out).mono ?_
      rintro en w4 ⟨rfl, hb4⟩
      rw [HMM.out.1, HMM.out.2.1, HMM.out.2.2]
      have hx04 := hx0.call hb4
      have hmk4 := hmk.call hb4
      have hct4 := hct.call hb4
      have hb04 := bl_call hb hb4
      obtain ⟨y0, y1, z0, z1⟩ := hx04.two
      have HX := Lib.hid (hx04.set2 (.slice (V mi).1 mm (V mi).2) (.int .i64 mj))
      have hm5 := (hmk4.set (i := 0) hx04 (.slice (V mi).1 mm (V mi).2)).set (i := 1) (hx04.set 0 (.slice (V mi).1 mm (V mi).2)) (.int .i64 mj)
      have hct5 := (hct4.set (i := 0) hx04 (by decide) (by decide) (.slice (V mi).1 mm (V mi).2)).set (i := 1) (hx04.set 0 (.slice (V mi).1 mm (V mi).2)) (by decide) (by decide) (.int .i64 mj)
      have hbs := bl_set (bl_set hb04 (g := w.heap.size) (i := 0) (Nat.le_refl _) (.slice (V mi).1 mm (V mi).2)) (g := w.heap.size) (i := 1) (Nat.le_refl _) (.int .i64 mj)
      gi_wp2_with (fail)
      refine leaves_marks (lo := w.heap.size) _ _ hm5 (fun w' hm' => ⟨_, results_cell_tmp2 rfl _ _ w.heap.size 92 _ (0, 0) _ _ rfl rfl (bx_def HX.out hm') Try.underlying92 rfl (by kernel_rfl), ?_⟩)
      exact HY.out w' (hct5.def_ hm') (hbs.trans (hm'.below hbs.size (fun q hq h => by have := h.1; omega)))
    · have hkN : k < row.length := by have := HK.out; omega
      have hkN' : (k : Int) < (row.length : Int) := by omega
      have hck := HR.out wr hb k hkN
      have hwl := hll k hkN
      have hwr := (hs.row k hkN).later hb
      have hwb := (hs.row k hkN).blk
      have HCK := Lib.hid (HCS.out k)
      have HES := Lib.hid (@each_succ g row k hall.out)
      have HEN := Lib.hid (@each_not g row k hkN)
      have hCA := HCA k (by omega) (eachTo_iff.1 hall.out)
      have hCL := HCL.out k
      have hcp := crs_pos (eachTo_iff.1 hall.out)
      have hML := makers_len g (row.getD k []) hw3.2
      generalize row.getD k [] = wsh at *
      generalize crsTo g row k = cs at *
      have hbN := bl_alloc hb (.cells #[.slice none 0 0] 97)
      gi_wp2_with (fail)
      refine ⟨trivial, ?_⟩
      refine (callsIn_wide.2 (makers_c _ _ _ _ _ _ _)).mono ?_
      rintro en w2 ⟨rfl, hw2⟩
      have hs2 : w2.heap.size = wr.heap.size + 3 := by rw [← hw2]; simp
      have hb2 : Below wr.heap.size wr w2 := by rw [← hw2]; exact bl_alloc (bl_alloc (bl_alloc (Below.refl _ _) _) _) _
      have x9 : Bx w2 wr.heap.size 97 #[.slice none 0 0] := by rw [← hw2]; exact ((Bx.new wr _ _).alloc _).alloc _
      have y1 : Bx w2 (wr.heap.size + 1) 22 #[.slice A g.length cap] := by rw [← hw2]; exact (Bx.newAt (by simp)).alloc _
      have y2 : Bx w2 (wr.heap.size + 2) 23 #[.slice (T k).1 wsh.length (T k).2] := by rw [← hw2]; exact Bx.newAt (by simp)
      clear hw2 hbN
      simp only [World.size_alloc] at *
      gi_wp2_with (fail)
      have hb02 := bl_call hb hb2
      have hwN := hb.size
      have hx2l := hx2.lt
      have hwr2 := hwr.later hb2
      generalize hN : wr.heap.size = N at *
      refine wp_range (n := 9) (gf := 91) (lb := #[.pointer (some ⟨N + 1, 0, none⟩), .pointer (some ⟨N + 1 + 1, 0, none⟩)]) rfl (enters_of Try.func91 (by kernel_rfl) rfl)
        (makers_iter w w2 A (T k).1 R g wsh cap (T k).2 (N + 1) (N + 2) (fun q => q < w.heap.size ∨ q = N + 1 ∨ q = N + 2) hg hb02 hr hwr2 (by omega) (by omega) y1.one.1 y2.one.1 (fun q h => .inl h) (.inr (.inl rfl)) (.inr (.inr rfl)) (by rintro q (h | h | h) <;> omega) (fun a e1 h => .inl (hwb a e1 h)))
        (Below.refl _ _) (by rintro q (h | h | h) <;> omega) (by rintro e x vs W' ⟨A2, c2, rfl, _⟩; rfl)
        (fun e pre X => Below wr.heap.size wr X ∧ ∃ (A2 : Option Addr) (c2 : Nat) (V2 : Rows) (S2 : Nat → Rows), Bx X N 97 #[.slice A2 pre.length c2] ∧ X.ownsRow e 92 2 (.slice A2 pre.length c2) pre.length (cellsC V2 (pre.map (smoothTo cs))) ∧ NewC wr X e V2 S2 (pre.map (smoothTo cs)))
        (fun _ _ _ _ => False) ?hI (fun _ _ _ _ _ h _ => h.elim) ?h0
        (fun e x a' X => ∃ A2 c2, X.ownsRow e 3 1 (.slice A2 x.length c2) x.length (ints x) ∧ a' = { tmps := #[.slice A g.length cap, .slice (some ⟨b1, o1, none⟩) row.length cap', undef, undef, .pointer (some ⟨w.heap.size, 0, none⟩), u5, .pointer (some ⟨w.heap.size + 1 + 1, 0, none⟩), undef,
          .slice (T k).1 wsh.length (T k).2, .pointer (some ⟨N, 0, none⟩), .slice A2 x.length c2, .agg #[.slice none 0 0, .int .i64 0], .slice (some ⟨w.heap.size + 1, 0, none⟩) 1 1, .slice (some ⟨b1, o1, none⟩) row.length cap', .int .i64 row.length, .int .i64 k, .bool true, .pointer (some ⟨b1, o1 + k, none⟩),
          .slice (T k).1 wsh.length (T k).2, .slice A g.length cap, .slice (T k).1 wsh.length (T k).2, .func (.func 91) #[] #[.pointer (some ⟨N + 1, 0, none⟩), .pointer (some ⟨N + 1 + 1, 0, none⟩)], .slice A2 x.length c2, u23, u24, u25, u26, u27, u28, u29, u30, u31, u32, u33, u34, undef, undef], defers := [] })
        ?hAx ?assign ?body ?done ?stop
      case hI =>
        rintro e s X Y ⟨hb, A2, c2, V2, S2, h0, h1, h2⟩ hm
        refine ⟨hb.trans (hm.below hb.size (fun q hq h => by have := h.1; omega)), A2, c2, V2, S2, h0.mod hm (fun h => by have := h.1; omega), own_mod h1 hm (fun q hq h => by have := (h1.lt q hq).1; have := h.2; omega), h2.mod hm (fun q h => h.2)⟩
      case h0 =>
        intro e X hb _ _
        exact ⟨by rw [hN]; exact hb2.trans (hb.mono (by omega)), none, 0, fun _ => (none, 0), fun _ _ => (none, 0), x9.call hb, World.ownsRow_nil _ _ _ _, NewC.nil _ _ _ _ _⟩
      case hAx =>
        rintro e x a' X Y l' o ⟨A2, c2, hown, rfl⟩ hl' ⟨r, hr'⟩ rfl
        exact ⟨A2, c2, own_loop hown hr' o, rfl⟩
      case assign =>
        rintro l' e pre x vs X k he hes _ ⟨A2, c2, rfl, hown⟩ hk
        gi_wp2
        exact hk _ _ (Mod.refl _ X) ⟨A2, c2, hown, rfl⟩
      case body =>
        rintro l' e pre x a' X he hes ⟨t, hpre⟩ ⟨hbX, A2, c2, V2, S2, h9, h1, hnew⟩ ⟨Ax, cx, hown, rfl⟩
        have hok : OkV x (wires g) 3 := (mem_makers.1 (show x ∈ makersL g wsh by rw [hpre]; simp)).1
        have hpl : pre.length + 1 ≤ 343 := by have h := congrArg List.length hpre; simp at h; omega
        have hbX' := hbX
        have hx2X := hx2.call hbX'
        have hctX : CT X.drew A' V S cs := (hct.ct hrd).later hbX'.drew
        have HST := Lib.hid (smoothestTo_c A' Ax V S cs (wires g) x c' cx X.drew hw3.2 hcp (by omega) (fun i hi => (hCA i hi).1) hok hctX (own_rd hown).1)
        have hbi := (bestTo_ok (cs := cs) (v := x) hcp cs.length (Nat.le_refl _)).1
        have HMAP : Hid ((pre ++ [x]).map (smoothTo cs) = pre.map (smoothTo cs) ++ [smoothTo cs x]) := by show _ = _; simp
        have HNEW : Hid (∀ w4 A4 c4, Below X.heap.size X w4 → w4.ownsRow X.drew.heap.size 23 1 (.slice A4 (smoothTo cs x).1.length c4) (smoothTo cs x).1.length (rowsV (sExt (S (bestL cs x).1) (cs.getD (bestL cs x).1 crsD).1.length Ax cx) (smoothTo cs x).1) →
            ∃ V3 S3, NewC wr w4 e V3 S3 ((pre ++ [x]).map (smoothTo cs)) ∧ cellsC V3 ((pre ++ [x]).map (smoothTo cs)) = cellsC V2 (pre.map (smoothTo cs)) ++ [.slice A4 (smoothTo cs x).1.length c4, .int .i64 (smoothTo cs x).2]) := fun w4 A4 c4 hb4 ho4 => by
          refine ⟨rExt V2 (pre.map (smoothTo cs)).length (A4, c4), tExt S2 (pre.map (smoothTo cs)).length (sExt (S (bestL cs x).1) (cs.getD (bestL cs x).1 crsD).1.length Ax cx), ?_, ?_⟩
          · rw [HMAP.out]
            refine (hnew.call hb4).snoc (own_base ho4 hes) fun q hq => ?_
            have hsc : (smoothTo cs x).1 = (cs.getD (bestL cs x).1 crsD).1 ++ [x] := rfl
            rw [hsc] at hq ⊢
            rcases Nat.lt_or_ge q (cs.getD (bestL cs x).1 crsD).1.length with h' | h'
            · left
              have e2 : sExt (S (bestL cs x).1) (cs.getD (bestL cs x).1 crsD).1.length Ax cx q = S (bestL cs x).1 q := if_pos h'
              rw [e2, getD_l h']
              exact hct.row _ q hbi h'
            · right
              obtain rfl : q = (cs.getD (bestL cs x).1 crsD).1.length := by rw [List.length_append, List.length_singleton] at hq; omega
              have e2 : sExt (S (bestL cs x).1) (cs.getD (bestL cs x).1 crsD).1.length Ax cx (cs.getD (bestL cs x).1 crsD).1.length = (Ax, cx) := if_neg (by omega)
              rw [e2, getD_r (Nat.le_refl _), Nat.sub_self]
              exact own_call hown hb4
          · rw [HMAP.out]; exact cellsC_snoc _ _ _ _
        have hplm : (pre.map (smoothTo cs)).length = pre.length := by simp
        have HPL : Hid ((pre ++ [x]).length = pre.length + 1) := by show _ = _; simp
        unfold OutC at HST
        generalize hsc : smoothTo cs x = sc at *
        obtain ⟨i0, hi0, hz0, hz1, hz2⟩ := info_parts crs_info
        have HAP : Hid (∀ w4 A4 c4, Below X.heap.size X w4 → ∃ A3 c3 w5, (∀ ty, (Builtin.append_ #[97, 97] ty #[.slice A2 pre.length c2, .slice (some ⟨w4.heap.size, 0, none⟩) 1 1]).run Try.prog (w4.alloc (.cells #[.slice A4 sc.1.length c4, .int .i64 sc.2] 92)) = .ok (.slice A3 (pre.length + 1) c3) w5) ∧
            w5.ownsRow e 92 2 (.slice A3 (pre.length + 1) c3) (pre.length + 1) (cellsC V2 (pre.map (smoothTo cs)) ++ [.slice A4 sc.1.length c4, .int .i64 sc.2]) ∧ (w4.alloc (.cells #[.slice A4 sc.1.length c4, .int .i64 sc.2] 92)).grownBy w5 (Value.slice A2 pre.length c2).ownBlock) := fun w4 A4 c4 hb4 =>
          run_append_rows (P := Try.prog) _ e 97 92 i0 _ 2 32 Try.underlying97 hi0 hz0 hz1 hz2 rfl (by decide) _ pre.length _ ((own_call h1 hb4).alloc _) (some ⟨w4.heap.size, 0, none⟩) 1 1 [.slice A4 sc.1.length c4, .int .i64 sc.2] rfl (fun u hu => by simp at hu; rcases hu with rfl | rfl <;> rfl) (Bx.rd (Bx.new w4 _ _)) (by unfold maxLen; omega) (by omega) (by rw [World.size_alloc]; have := hb4.size; omega)
        have HH9 : Hid (∀ w4, Below X.heap.size X w4 → (w4.cell? ⟨N, 0, none⟩ = some (.slice A2 pre.length c2) ∧ w4.frozen? ⟨N, 0, none⟩ = false) ∧ N < w4.heap.size) := fun w4 hb4 => ⟨(h9.call hb4).one, (h9.call hb4).lt⟩
        have hmix : Try.prog.follows .mixedOrders = true := by kernel_rfl
        have hdr : Below X.heap.size X X.drew := (Below.refl _ _).drew
        obtain ⟨⟨q9, r9⟩, s9⟩ := HH9.out X.drew hdr
        have q2 : X.drew.cell? ⟨w.heap.size + 2, 0, none⟩ = some (.slice A' cs.length c') := (hx2X.call hdr).one.1
        have HFIN : Hid (∀ w4 A4 c4 A3 c3 w5, Below X.heap.size X w4 → w4.ownsRow X.drew.heap.size 23 1 (.slice A4 sc.1.length c4) sc.1.length (rowsV (sExt (S (bestL cs x).1) (cs.getD (bestL cs x).1 crsD).1.length Ax cx) sc.1) → w5.ownsRow e 92 2 (.slice A3 (pre.length + 1) c3) (pre.length + 1) (cellsC V2 (pre.map (smoothTo cs)) ++ [.slice A4 sc.1.length c4, .int .i64 sc.2]) → (w4.alloc (.cells #[.slice A4 sc.1.length c4, .int .i64 sc.2] 92)).grownBy w5 (Value.slice A2 pre.length c2).ownBlock →
            Mod (fun k => ¬ (k < w.heap.size ∨ k = N + 1 ∨ k = N + 2) ∧ ¬ zone w2.heap.size e k) X (w5.setCell ⟨N, 0, none⟩ (.slice A3 (pre.length + 1) c3)) ∧ Below wr.heap.size wr (w5.setCell ⟨N, 0, none⟩ (.slice A3 (pre.length + 1) c3)) ∧ ∃ (A2 : Option Addr) (c2 : Nat) (V2 : Rows) (S2 : Nat → Rows), Bx (w5.setCell ⟨N, 0, none⟩ (.slice A3 (pre.length + 1) c3)) N 97 #[.slice A2 (pre ++ [x]).length c2] ∧ (w5.setCell ⟨N, 0, none⟩ (.slice A3 (pre.length + 1) c3)).ownsRow e 92 2 (.slice A2 (pre ++ [x]).length c2) (pre ++ [x]).length (cellsC V2 ((pre ++ [x]).map (smoothTo cs))) ∧ NewC wr (w5.setCell ⟨N, 0, none⟩ (.slice A3 (pre.length + 1) c3)) e V2 S2 ((pre ++ [x]).map (smoothTo cs))) := fun w4 A4 c4 A3 c3 w5 hb4 ho4 ho5 hg5 => by
          obtain ⟨V3, S3, hn4, hc4⟩ := HNEW.out w4 A4 c4 hb4 ho4
          have hoX := (own_call h1 hb4).alloc (.cells #[.slice A4 sc.1.length c4, .int .i64 sc.2] 92)
          have hx5 := bx_grown (T := 97) hoX hg5 (by decide) ((h9.call hb4).alloc _)
          have hn5 := (hn4.call (bl_alloc (Below.refl _ _) _)).grown hoX hg5
          have hm5 : Mod (fun k => e ≤ k) X w5 := ((Mod.of_call hb4).alloc _).grown hg5 (fun q hq => .inr (hoX.lt q hq).1)
          have hm6 := (hm5.weak (T := fun k => e ≤ k ∨ k = N) (fun q h => .inl h)).setCell (g := N) (i := 0) (.inr (.inr rfl)) (.slice A3 (pre.length + 1) c3)
          rw [HPL.out]
          refine ⟨hm6.weak (fun q h => ⟨by rintro (h' | h' | h') <;> rcases h with h | h <;> omega, fun hz => by have := hz.1; have := hz.2; rcases h with h | h <;> omega⟩), hbX.trans (hm6.below hbX.size (fun q hq h => by rcases h with h | h <;> omega)), A3, c3, V3, S3, hx5.set1 _, ?_, ?_⟩
          · rw [hc4]
            exact own_mod (S := fun q => q = N) ho5 ((Mod.refl (fun q => q = N) w5).setCell (g := N) (i := 0) (.inr rfl) _) (fun q hq h => by have := (ho5.lt q hq).1; omega)
          · exact hn5.mod (Z := fun q => q = N) ((Mod.refl (fun q => q = N) w5).setCell (g := N) (i := 0) (.inr rfl) _) (fun q h => by omega)
        have HX5 : Hid (∀ w4 A4 c4 w5, Below X.heap.size X w4 → (w4.alloc (.cells #[.slice A4 sc.1.length c4, .int .i64 sc.2] 92)).grownBy w5 (Value.slice A2 pre.length c2).ownBlock → w5.cell? ⟨N, 0, none⟩ = some (.slice A2 pre.length c2) ∧ w5.frozen? ⟨N, 0, none⟩ = false) := fun w4 A4 c4 w5 hb4 hg5 =>
          (bx_grown (T := 97) ((own_call h1 hb4).alloc _) hg5 (by decide) ((h9.call hb4).alloc _)).one
        clear hok hctX hown hnew h1 HNEW hi0 hz0 hz1 hz2 hbi hpre hsc HMAP hx2X hct hrd hmk hx0 hCA HR HCL HCS
        generalize rowsV (sExt (S (bestL cs x).1) (cs.getD (bestL cs x).1 crsD).1.length Ax cx) sc.1 = rv at *
        generalize cellsC V2 (pre.map (smoothTo cs)) = cv at *
        obtain ⟨sst, sj⟩ := sc
        simp only [] at HST HAP HFIN HX5
        generalize sst.length = sm at *
        generalize Value.slice A2 pre.length c2 = v9 at *
        gi_wp2_with (fail)
        gi_region_with_o (first
          | (refine ⟨trivial, ?_⟩; refine (CallsIn.inRound l' (callsIn_wide.2 HST.out)).mono ?_; rintro en w4 ⟨A4, c4, rfl, ho4, hb4⟩; have hb4' : Below X.heap.size X w4 := bl_call hdr hb4; obtain ⟨⟨q94, r94⟩, s94⟩ := HH9.out w4 hb4'; obtain ⟨A3, c3, w5, hrun0, ho5, hg5⟩ := HAP.out w4 A4 c4 hb4'; have hrun := hrun0 97; clear hrun0; obtain ⟨q95, r95⟩ := HX5.out w4 A4 c4 w5 hb4' hg5)
          | (simp [go_sem] at hrun; rw [hrun]; go_simp))
        all_goals
          have hfin := HFIN.out w4 A4 c4 A3 c3 w5 hb4' ho4 ho5 hg5
          clear HST HAP HH9 HFIN HX5 hrun ho4 ho5 hg5
          gi_wp2_with (fail)
          first | exact hfin | (rw [hs2] at hfin; exact hfin)
      case stop =>
        intro D e c pre X _ _ _ _ h
        exact h.elim
      case done =>
        rintro D e X hD hDe hes ⟨hbX, A2, c2, V2, S2, h9, h1, hnew⟩ hK
        have hlC : (crsTo g row (k + 1)).length = (makersL g wsh).length := by rw [HCK.out]; simp
        rw [← HCK.out] at h1 hnew
        have hbX' := hbX
        have hctN := hnew.all hbX'
        have hx0X := hx0.call hbX'
        have hx2X := hx2.call hbX'
        have hbwX := bl_call hb hbX'
        have hmkX : Marks w.heap.size ({ target := .collected D, args := #[] } :: ds) X := (hmk.call hbX').cons (by omega) hK (fun d hd => by obtain ⟨D', e1, e2⟩ := hmk.lt d hd; exact ⟨D', e1, by omega⟩)
        have hrdN := (own_rd h1).1
        clear hnew hct hrd hCA HR HCL HCS hx0 hx2 hmk hwr2 hwr x9 y1 y2
        obtain ⟨a9, b9⟩ := h9.one
        by_cases h0 : (makersL g wsh).length = 0
        · have HN0 := Lib.hid (HEN.out h0)
          rw [h0] at a9
          obtain ⟨d0, d1, f0, f1⟩ := hx0X.two
          have HX := Lib.hid (hx0X.set2 (.slice none 0 0) (.int .i64 0))
          have hm5 := (hmkX.set (i := 0) hx0X (.slice none 0 0)).set (i := 1) (hx0X.set 0 (.slice none 0 0)) (.int .i64 0)
          have hbs := bl_set (bl_set hbwX (g := w.heap.size) (i := 0) (Nat.le_refl _) (.slice none 0 0)) (g := w.heap.size) (i := 1) (Nat.le_refl _) (.int .i64 0)
          clear h0 HEN HES hML
          gi_wp2_with (fail)
          refine leaves_marks (lo := w.heap.size) _ _ hm5 (fun w' hm' => ⟨_, results_cell_tmp2 rfl _ _ w.heap.size 92 _ (0, 0) _ _ rfl rfl (bx_def HX.out hm') Try.underlying92 rfl (by kernel_rfl), ?_⟩)
          exact HNO.out w' HN0.out (hbs.trans (hm'.below hbs.size (fun q hq h => by have := h.1; omega)))
        · have HY0 := Lib.hid (HES.out (by omega))
          have hq : (((makersL g wsh).length : Int) == 0) = false := by rw [beq_eq_false_iff_ne]; omega
          obtain ⟨d0, f0⟩ := hx2X.one
          have HX2 := Lib.hid (hx2X.set1 (.slice A2 (makersL g wsh).length c2))
          have HX0 := Lib.hid (hx0X.far (g' := w.heap.size + 2) (i := 0) (by omega) (.slice A2 (makersL g wsh).length c2))
          have hm5 := hmkX.set (i := 0) hx2X (.slice A2 (makersL g wsh).length c2)
          have hct5 := hctN.set (i := 0) hx2X (by decide) (by decide) (.slice A2 (makersL g wsh).length c2)
          have hrd5 : Rd (X.setCell ⟨w.heap.size + 2, 0, none⟩ (.slice A2 (makersL g wsh).length c2)) A2 (cellsC V2 (crsTo g row (k + 1))) := (own_rd (own_set_bx (i := 0) h1 hx2X (by decide) (.slice A2 (makersL g wsh).length c2))).1
          have hbs := bl_set hbwX (g := w.heap.size + 2) (i := 0) (by omega) (.slice A2 (makersL g wsh).length c2)
          have HL := Lib.hid hlC
          clear h0 HEN HES hML hlC h1
          generalize (makersL g wsh).length = M at *
          gi_wp2_with (fail)
          refine Handed.intro gi ?measure ?_
          rotate_left
          first | gi_step | go_step
          exact ⟨k + 1, A2, c2, V2, S2, _, _, _, _, _, _, _, _, _, _, _, _, _, _, _, _, _, _, _, _, _, _, _, _, ⟨by have := HK.out; show _ = _; omega, by go_num, HX0.out, by rw [HL.out]; exact HX2.out, hrd5, hct5, HY0.out, hm5, hbs⟩, rfl⟩
          case measure => omega
end Go.Proofs.Ytmmjdabioolodaa
