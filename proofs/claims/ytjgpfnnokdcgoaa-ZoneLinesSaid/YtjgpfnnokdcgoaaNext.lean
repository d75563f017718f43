/- One more arrival of a search. -/
import Derived.Test.YtjgpfnnokdcgoaaSr
import Derived.BigRegion
import Derived.Deep.CutRange
namespace Go.Proofs.Ytjgpfnnokdcgoaa
open Go.RowKit Go.Maps

/-- A statement that ends in one frame and one world. -/
theorem wp_cut1 {P : Program} {c : Code} {Q : Exit → Act → World → Prop} {a : Act} {w : World} (h : ∃ A W, c.wp P (fun e a' w' => match e with | .normal => a' = A ∧ w' = W | _ => False) a w ∧ Q .normal A W) : c.wp P Q a w := by
  obtain ⟨A, W, h1, h2⟩ := h
  refine Code.wp_mono (fun e a' w' h => ?_) h1
  cases e with
  | normal => obtain ⟨rfl, rfl⟩ := h; exact h2
  | _ => exact h.elim

set_option maxRecDepth 100000 in
set_option maxHeartbeats 4000000 in
theorem next_c (B bo bn bi bs bm Z : Nat) (l : List (Int × Int)) (h0 h1 h2 h3 h4 h5 : Value) (ions : Nat) (g : Nat) (a : Nd) (Q : List (Nat × Nd)) (S : List (List Int)) (w : World) (hn : SN w B bo bn bi bs bm Z l h0 h1 h2 h3 h4 h5 ions) (hw : SQ w B bo bm ((g, a) :: Q) S)
    (hZ : Z ≤ 6) (ha : a.1.length = ions) (h4i : ions ≤ 4) (hiz : ions ≤ Z) (hin : ∀ x ∈ a.1, 0 ≤ x ∧ x < (Z : Int)) (hS : ∀ x ∈ S, x.length = ions) (hQ5 : Q.length ≤ 5000) (hS5 : S.length ≤ 5000) (hr5 : a.2.length ≤ 5000) :
    Calls Try.prog 94 #[.pointer (some ⟨bo, 0, none⟩), .pointer (some ⟨bn, 0, none⟩), .pointer (some ⟨bi, 0, none⟩), .pointer (some ⟨bs, 0, none⟩)] w fun e w' => e = .returned (.pointer (some ⟨g, 0, none⟩)) ∧ ∃ Q' S', SQ w' B bo bm Q' S' ∧ (mvTo l Z a.1 ions).foldl (stepM a) (Q.map Prod.snd, S) = (Q'.map Prod.snd, S') ∧ K3 bo bm w w' ∧ Below B w w' := by
  obtain ⟨v, y0, hoff⟩ := hw.open_
  obtain ⟨og, oo, oc, rfl, ho1, ho2, ho3⟩ := hoff.lt
  have q0 := hoff.cell (j := 0) rfl
  rw [Nat.add_zero] at q0
  have htl := hoff.tail
  have n1 := y0.cell 0
  have f1 := y0.free 0
  obtain ⟨bf, m1, m2, yg⟩ := (hw.arrs (g, a) (by simp)).box
  have hlong := hw.long.1
  have hbl : B ≤ w.heap.size := Nat.le_trans ho1 (Nat.le_of_lt ho2)
  simp only [List.map_cons, List.length_cons, List.length_map] at *
  have hsl := fun W => tail_run og oo Q.length oc ho3 (by omega) W
  generalize (if oc = 1 then (some ⟨og, oo, none⟩ : Option Addr) else some ⟨og, oo + 1, none⟩) = oa at *
  generalize oc - 1 = oc1 at *
  go_enter Try.func94, Try.ntmps94
  go_wp2_with (fail)
  have hk1 := K3.set w bo bm 0 (.slice oa Q.length oc1)
  have hn1 := hn.keep hk1 y0 hw.seen
  have hb1 : Below B w (w.setCell ⟨bo, 0, none⟩ (.slice oa Q.length oc1)) := (Below.refl _ _).setCell (p := ⟨bo, 0, none⟩) hn.low.1 _
  have hyg1 := hk1.ty y0 hw.seen yg (by decide) (by decide)
  have hs1 := hw.seen.setCell (a := ⟨bo, 0, none⟩) (hw.seen.not y0).symm (.slice oa Q.length oc1)
  have ya : Bx (w.setCell ⟨bo, 0, none⟩ (.slice oa Q.length oc1)) bo 116 #[.slice oa Q.length oc1] := y0.set 0 _
  have hq1 : SQ (w.setCell ⟨bo, 0, none⟩ (.slice oa Q.length oc1)) B bo bm Q S := ⟨⟨_, ya, htl.kept fun _ _ _ hx => hx.far (hx.other y0 (by decide)) _⟩, fun x hx => ArrR.kept (fun _ _ hx => hk1.ty y0 hw.seen hx (by decide) (by decide)) _ _ _ (hw.arrs x (List.mem_cons_of_mem _ hx)), hs1, by omega, hw.long.2⟩
  clear q0 n1 f1 hsl
  obtain ⟨wa, hwa⟩ : ∃ wa, wa = w.setCell ⟨bo, 0, none⟩ (.slice oa Q.length oc1) := ⟨_, rfl⟩
  rw [← hwa] at hk1 hn1 hb1 hyg1 hs1 ya hq1 ⊢
  obtain ⟨p, r⟩ := a
  simp only [] at ha hin hyg1 yg hr5 ⊢
  subst ha
  have HM := fun W (hW : Below wa.heap.size wa W) hrW => Lib.hid (moves_c Z l h0 h1 h2 h3 h4 h5 (some ⟨g, 0, none⟩) p 4 W hZ h4i hiz hin ((NetR.of hn1.tab).later hW) hrW)
  have hrg : Rd wa (some ⟨g, 0, none⟩) (ints p) := .inr ⟨g, 0, rfl, hyg1.lt, fun j v hj => by
    rw [Nat.zero_add, hyg1.cell j]
    have hjl : j < p.length := by have := (List.getElem?_eq_some_iff.1 hj).1; simpa using this
    rw [ints_get hjl] at hj
    injection hj with hj
    subst hj
    match j, (by omega : j < 4) with
    | 0, _ => rfl
    | 1, _ => rfl
    | 2, _ => rfl
    | 3, _ => rfl⟩
  have hbd : Below wa.heap.size wa wa.drew := (Below.refl _ _).drew
  have e0 := hn1.net.cell 0
  have e1 := hn1.net.cell 1
  have e2 := hn1.net.cell 2
  have e3 := hn1.net.cell 3
  have e4 := hn1.net.cell 4
  have e5 := hn1.net.cell 5
  have e6 := hn1.net.cell 6
  have e7 := hn1.ion.cell 0
  simp only [List.getElem?_toArray, List.getElem?_cons_zero, List.getElem?_cons_succ] at e0 e1 e2 e3 e4 e5 e6 e7
  have q4 : (p.length : Int) ≤ 4 := by omega
  have HMem : Hid (∀ m ∈ mvTo l Z p p.length, ∃ j : Nat, j < p.length ∧ m.1 = (j : Int) ∧ 0 ≤ m.2 ∧ m.2 < (Z : Int)) := fun m hm => by
    obtain ⟨j, h1, h2, h3, h4, _⟩ := mvTo_mem hm
    exact ⟨j, h1, h2, h3, h4⟩
  have hM24 : (mvTo l Z p p.length).length ≤ 24 := Nat.le_trans (mvTo_len l Z p _) (Nat.le_trans (Nat.mul_le_mul h4i hZ) (by omega))
  clear hwa
  generalize hMM : mvTo l Z p p.length = M at *
  have HMM := Lib.hid hMM
  clear hMM
  go_cut [23, 24, 25] from 17 to 25 (fun s23 s24 s25 wc => ∃ A' c', s23 = .slice A' M.length c' ∧ s24 = .int .i64 M.length ∧ s25 = .int .i64 0 ∧ wc.ownsRow wa.heap.size 54 2 (.slice A' M.length c') M.length (cellsP M) ∧ Below wa.heap.size wa wc)
  case first =>
    go_region_with (go_at_call 68; refine (HM _ hbd hrg).out.mono ?_; rintro e w1 ⟨A', c', rfl, ho, hb⟩)
    all_goals
      go_wp2_with (fail)
      go_meet
      exact ⟨_, _, rfl, rfl, rfl, ho, bl_call hbd hb⟩
  obtain ⟨A', c', rfl, rfl, rfl, hoM, hbM⟩ := hcut
  clear e0 e1 e2 e3 e4 e5 e6 e7 HM hrg hbd
  have hqM := hq1.call hbM
  have hnM := hn1.keep (K3.call hbM) ya hs1
  have hkM := hk1.trans (K3.call (bo := bo) (bm := bm) hbM)
  have hbBM : Below B w wc := hb1.trans (hbM.mono hn1.low.2.2)
  have hygM := hyg1.call hbM
  have hsa : wa.heap.size ≤ wc.heap.size := hbM.size
  obtain ⟨vM, yoM, _⟩ := hqM.open_
  have hArM : ArrR wc B g p r := ArrR.kept (fun _ _ hx => hkM.ty y0 hw.seen hx (by decide) (by decide)) _ _ _ (hw.arrs (g, p, r) (by simp))
  obtain ⟨wM, rfl⟩ : ∃ wM, wM = wc := ⟨_, rfl⟩
  go_wp2_with (fail)
  go_loopg [25] M.length (fun gk iv wr => ∃ (k : Nat) (Qc : List (Nat × Nd)) (Sc : List (List Int)), Hid (k + gk = M.length) ∧ iv = .int .i64 (k : Int) ∧ Hid ((M.take k).foldl (stepM (p, r)) (Q.map Prod.snd, S) = (Qc.map Prod.snd, Sc)) ∧ SQ wr B bo bm Qc Sc ∧ K3 bo bm wM wr ∧ Below B wM wr ∧ Qc.length ≤ 5000 + k ∧ Sc.length ≤ 5000 + k ∧ (∀ x ∈ Sc, x.length = p.length))
  case atStart => exact ⟨0, Q, S, by simp [Hid], rfl, by simp [Hid], hqM, K3.refl _ _ _, Below.refl _ _, by omega, by omega, hS⟩
  case round =>
    obtain ⟨k, Qc, Sc, HK, rfl, HF, hq, hk, hb, hl1, hl2, hSc⟩ := hrel
    rcases gk with _ | gi
    · obtain rfl : k = M.length := HK.out
      have HF2 := HF.out
      rw [List.take_length] at HF2
      have HF3 := Lib.hid HF2
      clear HF2
      go_wp2_with (fail)
      go_ret
      exact ⟨rfl, Qc, Sc, hq, by show List.foldl _ _ (mvTo l Z p p.length) = _; rw [HMM.out]; exact HF3.out, hkM.trans hk, hbBM.trans hb⟩
    · have hkl : k < M.length := by have h := HK.out; omega
      have hkl' : (k : Int) < (M.length : Int) := by omega
      obtain ⟨vo, yo, hoff⟩ := hq.open_
      obtain ⟨ogc, ooc, occ, hvo, _⟩ := hoff.lt
      rw [List.length_map] at hvo
      subst hvo
      have hnr := hnM.keep hk yoM hqM.seen
      have hgr := hk.ty yoM hqM.seen hygM (by decide) (by decide)
      have hmr := own_keep hoM fun _ _ hx => hk.ty yoM hqM.seen hx (by decide) (by decide)
      obtain ⟨bq, oq, rfl, _, d0, d1⟩ := (own_rd hmr).1.pair hkl
      obtain ⟨j, hj, hm1, hm2⟩ := HMem.out (M.getD k (0, 0)) (by simp [hkl])
      have HTK : Hid (M.take (k + 1) = M.take k ++ [M.getD k (0, 0)]) := by show _ = _; rw [List.take_succ_eq_append_getElem hkl]; simp [hkl]
      generalize M.getD k (0, 0) = m at *
      obtain ⟨mi, t⟩ := m
      simp only [] at hm1 hm2 d0 d1
      subst hm1
      go_wp2_with (fail)
      obtain ⟨w7, hw7⟩ : ∃ w7, w7 = wr.alloc (.cells #[.int .i64 j, .int .i64 t] 54) := ⟨_, rfl⟩
      rw [← hw7]
      have hb7 : Below wr.heap.size wr w7 := by rw [hw7]; exact bl_alloc (Below.refl _ _) _
      have x7 : Bx w7 wr.heap.size 54 #[.int .i64 j, .int .i64 t] := by rw [hw7]; exact Bx.new _ _ _
      have hg7 := hgr.call hb7
      have hg0 := hg7.cell 0
      have hg1 := hg7.cell 1
      have hg2 := hg7.cell 2
      have hg3 := hg7.cell 3
      have hglt := hg7.lt
      have hxlt := x7.lt
      obtain ⟨k0, k1, _⟩ := x7.two
      have HA0 := fun W => after_c p j t W h4i hj
      have HPL : Hid (plV (p.set j t) = .agg #[.int .i64 ((p.set j t).getD 0 0), .int .i64 ((p.set j t).getD 1 0), .int .i64 ((p.set j t).getD 2 0), .int .i64 ((p.set j t).getD 3 0)]) := rfl
      unfold plA at HA0
      have HA := fun W => Lib.hid (HA0 W)
      clear HA0 hw7
      generalize (p.set j t).getD 0 0 = v0 at HA HPL
      generalize (p.set j t).getD 1 0 = v1 at HA HPL
      generalize (p.set j t).getD 2 0 = v2 at HA HPL
      generalize (p.set j t).getD 3 0 = v3 at HA HPL
      simp at hg0 hg1 hg2 hg3
      have hbd7 : Below w7.heap.size w7 w7.drew := (Below.refl _ _).drew
      have HPA : Hid (plA (p.set j t) = #[.int .i64 v0, .int .i64 v1, .int .i64 v2, .int .i64 v3]) := by show _ = _; have h := HPL.out; unfold plV at h; injection h
      go_cut [8, 25] from 25 to 54 (fun s8 s25 wc => ∃ g8, s8 = .pointer (some ⟨g8, 0, none⟩) ∧ s25 = .int .i64 (k : Int) ∧ Bx wc g8 92 #[.int .i64 v0, .int .i64 v1, .int .i64 v2, .int .i64 v3] ∧ Below w7.heap.size w7 wc ∧ w7.heap.size ≤ g8)
      case first =>
        go_region_with (go_at_call 95; refine (HA _).out.mono ?_; rintro e w1 ⟨rfl, hbA⟩; first
          | (have y8 : Bx w1 w7.heap.size 92 #[.int .i64 0, .int .i64 0, .int .i64 0, .int .i64 0] := (Bx.new w7.drew _ _).call hbA
             obtain ⟨s0, s1, s2, s3⟩ : w1.cell? ⟨w7.heap.size, 0, none⟩ = some (.int .i64 0) ∧ w1.cell? ⟨w7.heap.size, 1, none⟩ = some (.int .i64 0) ∧ w1.cell? ⟨w7.heap.size, 2, none⟩ = some (.int .i64 0) ∧ w1.cell? ⟨w7.heap.size, 3, none⟩ = some (.int .i64 0) := ⟨y8.cell 0, y8.cell 1, y8.cell 2, y8.cell 3⟩
             obtain ⟨z0, z1, z2, z3⟩ : w1.frozen? ⟨w7.heap.size, 0, none⟩ = false ∧ w1.frozen? ⟨w7.heap.size, 1, none⟩ = false ∧ w1.frozen? ⟨w7.heap.size, 2, none⟩ = false ∧ w1.frozen? ⟨w7.heap.size, 3, none⟩ = false := ⟨y8.free 0, y8.free 1, y8.free 2, y8.free 3⟩)
          | skip)
        all_goals
          go_wp2_with (fail)
          go_meet
          first
            | exact ⟨_, rfl, rfl, (((y8.set 0 _).set 1 _).set 2 _).set 3 _, bl_set (bl_set (bl_set (bl_set (bl_call (bl_alloc hbd7 _) hbA) (Nat.le_refl _) _) (Nat.le_refl _) _) (Nat.le_refl _) _) (Nat.le_refl _) _, Nat.le_refl _⟩
            | exact ⟨_, rfl, rfl, Bx.new w1 _ _, bl_alloc (bl_call hbd7 hbA) _, hbA.size⟩
      obtain ⟨g8, rfl, rfl, y8, hb8, hg8⟩ := hcut
      have hb78 := bl_call hb7 hb8
      have hBr := hnr.low.2.2
      have hq8 := hq.call hb78
      have yo8 := yo.call hb78
      have hk8 := hk.trans (K3.call (bo := bo) (bm := bm) hb78)
      have hbB8 : Below B wM wc := hb.trans (hb78.mono hBr)
      have hnr8 := hnr.keep (K3.call hb78) yo hq.seen
      have hgr8 := hgr.call hb78
      have hAr8 : ArrR wc B g p r := ArrR.kept (fun _ _ hx => hk8.ty yoM hqM.seen hx (by decide) (by decide)) _ _ _ hArM
      have x78 := x7.call hb8
      have hoff8 := hoff.call hb78
      clear HA hg0 hg1 hg2 hg3 hglt hxlt k0 k1 hb7 hb8 hg7 x7 hbd7
      have s0 := hnr8.seenv.cell 0
      obtain ⟨c0, c1, c2, c3⟩ : wc.cell? ⟨g8, 0, none⟩ = some (.int .i64 v0) ∧ wc.cell? ⟨g8, 1, none⟩ = some (.int .i64 v1) ∧ wc.cell? ⟨g8, 2, none⟩ = some (.int .i64 v2) ∧ wc.cell? ⟨g8, 3, none⟩ = some (.int .i64 v3) := ⟨y8.cell 0, y8.cell 1, y8.cell 2, y8.cell 3⟩
      simp only [List.getElem?_toArray, List.getElem?_cons_zero] at s0
      have HKEY : Hid ((keyOf Try.prog 92 (.agg #[.int .i64 v0, .int .i64 v1, .int .i64 v2, .int .i64 v3])).isSome = true) := by
        show _ = _
        rw [← HPL.out]
        refine place_key fun x hx => ?_
        rcases List.mem_or_eq_of_mem_set hx with h | h
        · have := hin x h; omega
        · subst h; omega
      have HMP : Hid (memV plV Sc (.agg #[.int .i64 v0, .int .i64 v1, .int .i64 v2, .int .i64 v3]) = true ↔ p.set j t ∈ Sc) := by
        rw [← HPL.out]; exact mem_pl hSc (by simp) h4i
      by_cases hm : p.set j t ∈ Sc
      · have hV := HMP.out.2 hm
        have HF2 : Hid ((M.take (k + 1)).foldl (stepM (p, r)) (Q.map Prod.snd, S) = (Qc.map Prod.snd, Sc)) := by
          show _ = _
          rw [HTK.out, List.foldl_append, HF.out]
          simp [stepM, hm]
        clear HMP hm
        go_wp2_with (at_lookup; refine wpList_lookup_seen _ rfl _ _ 115 rfl place_law Try.underlying115 Try.underlying4 (zero_bool _) bm Sc.length (memV plV Sc) rfl hq8.seen (.agg #[.int .i64 v0, .int .i64 v1, .int .i64 v2, .int .i64 v3]) rfl HKEY.out true hV ?_)
        go_roundg gi
        case rel => exact ⟨k + 1, Qc, Sc, by have h := HK.out; show _ = _; omega, by go_num, HF2, hq8, hk8, hbB8, by omega, by omega, hSc⟩
        case measure => omega
      · have hV : memV plV Sc (.agg #[.int .i64 v0, .int .i64 v1, .int .i64 v2, .int .i64 v3]) = false := by
          cases hb : memV plV Sc (.agg #[.int .i64 v0, .int .i64 v1, .int .i64 v2, .int .i64 v3]) with
          | false => rfl
          | true => exact absurd (HMP.out.1 hb) hm
        have HV3 : Hid (memV plV (Sc ++ [p.set j t]) (.agg #[.int .i64 v0, .int .i64 v1, .int .i64 v2, .int .i64 v3]) = true) := by show _ = _; rw [← HPL.out]; exact memV_new plV Sc _
        have HV2 : Hid (∀ v, v ≠ (.agg #[.int .i64 v0, .int .i64 v1, .int .i64 v2, .int .i64 v3] : Value) → memV plV (Sc ++ [p.set j t]) v = memV plV Sc v) := fun v hv => memV_old _ _ (by rw [HPL.out]; exact hv)
        have HF2 : Hid (∀ gn : Nat, (M.take (k + 1)).foldl (stepM (p, r)) (Q.map Prod.snd, S) = ((Qc ++ [(gn, (p.set j t, ((j : Int), t) :: r))]).map Prod.snd, Sc ++ [p.set j t])) := fun gn => by
          rw [HTK.out, List.foldl_append, HF.out]
          simp [stepM, hm]
        have hSc2 : ∀ x ∈ Sc ++ [p.set j t], x.length = p.length := fun x hx => by
          rcases List.mem_append.1 hx with h | h
          · exact hSc x h
          · rw [List.mem_singleton.1 h]; simp
        clear HMP hm HF
        go_wp2_with (first
          | (at_lookup; refine wpList_lookup_seen _ rfl _ _ 115 rfl place_law Try.underlying115 Try.underlying4 (zero_bool _) bm Sc.length (memV plV Sc) rfl hq8.seen (.agg #[.int .i64 v0, .int .i64 v1, .int .i64 v2, .int .i64 v3]) rfl HKEY.out false hV ?_)
          | (at_mapUpdate; refine wpList_mapUpdate_seen _ rfl _ _ _ 115 rfl place_law Try.underlying115 Try.underlying4 bm Sc.length (memV plV Sc) (memV plV (Sc ++ [p.set j t])) rfl hq8.seen (by unfold maxLen; omega) (.agg #[.int .i64 v0, .int .i64 v1, .int .i64 v2, .int .i64 v3]) rfl rfl HKEY.out HV3.out HV2.out ?_; intro w10 hs10 hg10))
        have HK10 : ∀ {g' : Nat} {T : TypeId} {cs : Array Value}, Bx wc g' T cs → Bx w10 g' T cs := fun {g' T cs} hx => (hg10.block g' hx.lt (fun e => hq8.seen.not hx (by injection e))).trans hx
        have hB8 := hnr8.low.2.2
        have hb10 : Below B wc w10 := (Below.refl B wc).grown hg10 hB8 (fun j hj => by cases hj; exact hn.low.2.1)
        have yo10 := HK10 yo8
        have hgr10 := HK10 hgr8
        have x10 := HK10 x78
        have y10 := HK10 y8
        have hoff10 := hoff8.kept fun _ _ _ hx => HK10 hx
        have hbC : Below w10.heap.size w10 (((w10.alloc (.cells #[.int .i64 v0, .int .i64 v1, .int .i64 v2, .int .i64 v3, .int .i64 (IntKind.i64.wrap ((r.length : Int) + 1)), .pointer (some ⟨g, 0, none⟩), .int .i64 j, .int .i64 t] 94)).alloc (.cells #[.pointer (some ⟨w10.heap.size, 0, none⟩)] 89)).drew) := (bl_alloc (bl_alloc (Below.refl _ _) _) _).drew
        have hsC : Bx (((w10.alloc (.cells #[.int .i64 v0, .int .i64 v1, .int .i64 v2, .int .i64 v3, .int .i64 (IntKind.i64.wrap ((r.length : Int) + 1)), .pointer (some ⟨g, 0, none⟩), .int .i64 j, .int .i64 t] 94)).alloc (.cells #[.pointer (some ⟨w10.heap.size, 0, none⟩)] 89)).drew) (w10.heap.size + 1) 89 #[.pointer (some ⟨w10.heap.size, 0, none⟩)] := Bx.newAt (by simp)
        have haC : Bx (((w10.alloc (.cells #[.int .i64 v0, .int .i64 v1, .int .i64 v2, .int .i64 v3, .int .i64 (IntKind.i64.wrap ((r.length : Int) + 1)), .pointer (some ⟨g, 0, none⟩), .int .i64 j, .int .i64 t] 94)).alloc (.cells #[.pointer (some ⟨w10.heap.size, 0, none⟩)] 89)).drew) w10.heap.size 94 #[.int .i64 v0, .int .i64 v1, .int .i64 v2, .int .i64 v3, .int .i64 (IntKind.i64.wrap ((r.length : Int) + 1)), .pointer (some ⟨g, 0, none⟩), .int .i64 j, .int .i64 t] := (Bx.newAt (by simp)).alloc _
        obtain ⟨wC, hwC⟩ : ∃ wC, wC = ((w10.alloc (.cells #[.int .i64 v0, .int .i64 v1, .int .i64 v2, .int .i64 v3, .int .i64 (IntKind.i64.wrap ((r.length : Int) + 1)), .pointer (some ⟨g, 0, none⟩), .int .i64 j, .int .i64 t] 94)).alloc (.cells #[.pointer (some ⟨w10.heap.size, 0, none⟩)] 89)).drew := ⟨_, rfl⟩
        rw [← hwC] at hbC hsC haC
        have hB10 : B ≤ w10.heap.size := Nat.le_trans hB8 hg10.size
        obtain ⟨vD, wD, hrun, hoffD, hblD, hszD, hkD⟩ := OffR.append (hoff10.call hbC) hsC rfl (by simp; omega) (Nat.le_trans hB10 hbC.size)
        rw [hwC] at hrun
        obtain ⟨ogd, ood, ocd, hvD, _⟩ := hoffD.lt
        have hKD : K3 bo bm wC wD := ⟨hszD, fun k hk _ _ h => hkD k hk h⟩
        have hbo8 := hq8.seen.not yo8
        have HKD : ∀ {g' : Nat} {T : TypeId} {cs : Array Value}, T ≠ 89 → Bx wC g' T cs → Bx wD g' T cs := fun {g' T cs} hT hx => (hkD g' hx.lt (fun cs' e => by
          have e' : wC.heap[g']? = some (.cells cs T (0, 0)) := hx
          rw [e'] at e; injection e with e; injection e with _ e; exact hT e)).trans hx
        have yoD := HKD (by decide) (yo10.call hbC)
        have haD := HKD (by decide) haC
        have hKall : K3 bo bm wc (wD.setCell ⟨bo, 0, none⟩ vD) := ((K3.map hg10).trans ((K3.call hbC).trans hKD)).trans (K3.set wD bo bm 0 vD)
        have hBall : Below B wc (wD.setCell ⟨bo, 0, none⟩ vD) := ((hb10.trans (hbC.mono hB10)).trans hblD).setCell (p := ⟨bo, 0, none⟩) hn.low.1 _
        have hsD : Seen Try.prog 92 4 (wD.setCell ⟨bo, 0, none⟩ vD) bm (Sc.length + 1) (memV plV (Sc ++ [p.set j t])) := by
          have h1 := hs10.block (hbC.block _ hs10.lt)
          have h2 := h1.block (hkD bm h1.lt (fun cs e => h1.not e rfl))
          exact h2.setCell (a := ⟨bo, 0, none⟩) hbo8.symm _
        have hqF : SQ (wD.setCell ⟨bo, 0, none⟩ vD) B bo bm (Qc ++ [(w10.heap.size, (p.set j t, ((j : Int), t) :: r))]) (Sc ++ [p.set j t]) := by
          refine ⟨⟨vD, yoD.set 0 vD, ?_⟩, fun x hx => ?_, by rw [List.length_append]; exact hsD, by simp; omega, by simp; omega⟩
          · rw [List.map_append]
            exact hoffD.kept fun _ _ _ hx => hx.far (hx.other yoD (by decide)) _
          · rcases List.mem_append.1 hx with h | h
            · exact ArrR.kept (fun _ _ hx => hKall.ty yo8 hq8.seen hx (by decide) (by decide)) _ _ _ (hq8.arrs x h)
            · rw [List.mem_singleton.1 h]
              refine ⟨hB10, g, p, ?_, ArrR.kept (fun _ _ hx => hKall.ty yo8 hq8.seen hx (by decide) (by decide)) _ _ _ hAr8⟩
              have h2 := haD.far (haD.other yoD (by decide)) vD (i := 0)
              rw [HPA.out]
              have e : ((r.length + 1 : Nat) : Int) = (r.length : Int) + 1 := by omega
              rw [e]
              have hwr : IntKind.i64.wrap ((r.length : Int) + 1) = (r.length : Int) + 1 := by simp [IntKind.wrap, IntKind.bits, IntKind.signed]; omega
              rw [hwr] at h2
              exact h2
        rw [List.length_append, List.length_map, List.length_singleton] at hvD
        subst hvD
        have E11 := Lib.hid hrun
        clear hrun hkD HKD hwC
        obtain ⟨n0, f0⟩ := yo10.one
        have fD := yoD.free 0
        have nD := yoD.cell 0
        have n4 := hgr10.cell 4
        obtain ⟨k0, k1, _⟩ := x10.two
        obtain ⟨c0, c1, c2, c3⟩ : w10.cell? ⟨g8, 0, none⟩ = some (.int .i64 v0) ∧ w10.cell? ⟨g8, 1, none⟩ = some (.int .i64 v1) ∧ w10.cell? ⟨g8, 2, none⟩ = some (.int .i64 v2) ∧ w10.cell? ⟨g8, 3, none⟩ = some (.int .i64 v3) := ⟨y10.cell 0, y10.cell 1, y10.cell 2, y10.cell 3⟩
        simp at n4 nD
        have j0 := yo10.lt
        have j1 := hgr10.lt
        have j2 := x10.lt
        have j3 := y10.lt
        have HREL := Lib.hid (And.intro hqF (And.intro (hk8.trans hKall) (And.intro (hbB8.trans hBall) hSc2)))
        clear hqF hKall hBall hSc2 hk8 hbB8 HV3 HV2 HMem HMM hoM hmr HKEY HPL HPA hoff8 hoff10 yo8 hgr8 y8 x78 hnr8 hAr8 hq8 hb10 hg10 hs10
        go_wp2_with (fail)
        refine wp_cut1 ?_
        apply Exists.intro
        apply Exists.intro
        refine And.intro ?_ ?_
        · go_region_law (refine step_append_run rfl (.tmp 41) (.tmp 52) 116 rfl (.slice (some ⟨ogc, ooc, none⟩) Qc.length occ) (.slice (some ⟨w10.heap.size + 1, 0, none⟩) 1 1) _ wD (by simp [Act.eval]) (by simp [Act.eval]) E11.out ?_)
          all_goals exact ⟨rfl, rfl⟩
        go_wp2_with (fail)
        go_roundg gi
        case rel => exact ⟨k + 1, _, _, by have h := HK.out; show _ = _; omega, by go_num, HF2.out _, HREL.out.1, HREL.out.2.1, HREL.out.2.2.1, by simp; omega, by simp; omega, HREL.out.2.2.2⟩
        case measure => omega
end Go.Proofs.Ytjgpfnnokdcgoaa
