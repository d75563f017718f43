/- How many fields there are: package volt's contract. -/
import Derived.Test.YtmmjdabioolodaaFdm
import Derived.Test.YtmmjdabioolodaaJmp
namespace Go.Proofs.Ytmmjdabioolodaa
open Go.RowKit Go.Shelf Go.Maps
attribute [local go_sem] Oper.semAt_some

/-- The fields of the first voltages, each once. -/
def addF (g : List (List Int)) (ks : List (List Int)) (v : List Int) : List (List Int) := if fieldL g v ∈ ks then ks else ks ++ [fieldL g v]
def distP (g : List (List Int)) (pre : List (List Int)) : List (List Int) := pre.foldl (addF g) []
theorem distP_snoc (g : List (List Int)) (pre : List (List Int)) (x : List Int) : distP g (pre ++ [x]) = if fieldL g x ∈ distP g pre then distP g pre else distP g pre ++ [fieldL g x] := by
  unfold distP
  rw [List.foldl_append]; rfl
theorem distP_to (g : List (List Int)) : ∀ k, distP g (voltsTo (wires g) k) = distTo g k
  | 0 => rfl
  | k + 1 => by
    have e : voltsTo (wires g) (k + 1) = voltsTo (wires g) k ++ [vAt (wires g) k] := by simp [voltsTo, List.range_succ]
    rw [e, distP_snoc, distP_to g k, distTo]
    change (if fV g k ∈ distTo g k then distTo g k else distTo g k ++ [fV g k]) = _
    by_cases h : newB g k = true
    · rw [if_pos h, if_neg (new_mem.1 h)]
    · rw [if_neg h, if_pos]
      exact Classical.not_not.1 fun hn => h (new_mem.2 hn)
theorem distP_all (g : List (List Int)) : distP g (voltsL (wires g)) = distL g := distP_to g _
theorem fld_ok {g : List (List Int)} {v : List Int} (hg : OkG g) (hv : OkV v (wires g) 3) : FldOk (fieldL g v) := ⟨by rw [fieldL_len]; exact hg.pts.2, fun k => by have := (field_bound hg hv).at_ k; omega⟩
/-- A list of at most three numbers into an array of three zeros. -/
theorem run_copy_pad (w : World) (ty : TypeId) (q r m : Nat) (F : List Int) (T : TypeId) (hl : F.length = m) (hm : m ≤ 3) (hq : Bx w q T #[.int .i64 0, .int .i64 0, .int .i64 0]) (hr : Row w r F) :
    (Builtin.copy_ #[23, 23] ty #[.slice (some ⟨q, 0, none⟩) 3 3, .slice (some ⟨r, 0, none⟩) m m]).run Try.prog w = .ok (goInt (Nat.min m 3 : Nat)) (w.setRow q #[.int .i64 (F.getD 0 0), .int .i64 (F.getD 1 0), .int .i64 (F.getD 2 0)]) := by
  obtain ⟨i0, hi, hz0, hz1, hz2⟩ := info_parts int_info
  have hmn : Nat.min m 3 = m := Nat.min_eq_left hm
  have hfl := run_firstCells_some (P := Try.prog) w i0.size m ⟨r, 0, none⟩ m m (ints F) (by rw [ints_length, hz1, hl, Nat.mul_one]) (fun j v hv => by
    have hadd : (⟨r, 0, none⟩ : Addr).add j = ⟨r, j, none⟩ := by unfold Addr.add; split <;> simp_all
    rw [hadd, Bx.cell hr j]; simpa using hv)
  have hst := run_storeCells_at Try.prog q 0 T (ints F) 0 #[.int .i64 0, .int .i64 0, .int .i64 0] w hq (by simp [hl] <;> omega) (ints_one _)
  have he : (List.take (0 + 0) (#[.int .i64 0, .int .i64 0, .int .i64 0] : Array Value).toList ++ ints F ++ List.drop (0 + 0 + (ints F).length) (#[.int .i64 0, .int .i64 0, .int .i64 0] : Array Value).toList).toArray = #[.int .i64 (F.getD 0 0), .int .i64 (F.getD 1 0), .int .i64 (F.getD 2 0)] := by
    subst hl
    match F, hm with
    | [], _ => rfl
    | [a], _ => rfl
    | [a, b], _ => rfl
    | [a, b, c], _ => rfl
    | a :: b :: c :: d :: t, h => simp at h
  rw [he] at hst
  simp [Builtin.copy_, run_underlying Try.underlying23, Builtin.lenOf, sizeOf, typeInfo, hi, hmn, hfl, hst]
theorem mod_setRow {S : Nat → Prop} {a b : World} (h : Mod S a b) {q : Nat} (hq : a.heap.size ≤ q) (cs : Array Value) : Mod S a (b.setRow q cs) :=
  ⟨h.os, h.tape, h.output, by rw [setRow_size]; exact h.size, fun k hk hn => (setRow_other b q k cs (by omega)).trans (h.block k hk hn)⟩
theorem bl_setRow {a b : World} (h : Below a.heap.size a b) {q : Nat} (hq : a.heap.size ≤ q) (cs : Array Value) : Below a.heap.size a (b.setRow q cs) :=
  (mod_setRow (Mod.of_below h) hq cs).below (Nat.le_refl _) (fun k hk h => by omega)
theorem bx_setRow {w : World} {g q : Nat} {T : TypeId} {cs : Array Value} (h : Bx w g T cs) (hne : g ≠ q) (ds : Array Value) : Bx (w.setRow q ds) g T cs := (setRow_other w q g ds hne).trans h
set_option maxRecDepth 100000 in
set_option maxHeartbeats 4000000 in
theorem Fields_c (A : Option Addr) (R : Rows) (g : List (List Int)) (cap : Nat) (w : World) (hl : Brief g) (hr : RT w A R g) :
    Calls Try.prog 29 #[.slice A g.length cap] w fun e w' => e = .returned (.tuple #[.int .i64 (fldsG g), .int .i64 (errB (okG g))]) ∧ Below w.heap.size w w' := by
  have hbb := bl_alloc (Below.refl w.heap.size w) (.cells #[.slice A g.length cap] 22)
  have x0 : Bx (w.alloc (.cells #[.slice A g.length cap] 22)) w.heap.size 22 #[.slice A g.length cap] := Bx.newAt rfl
  have HV := Lib.hid (Validate_c A R g cap _ hl (hr.later hbb))
  obtain ⟨c00, _⟩ := x0.one
  by_cases hW : okG g = true
  · have hg := okG_iff.1 hW
    have hG : fldsG g = ((distL g).length : Int) := by unfold fldsG; rw [if_pos hW]
    have hDA : distP g (voltsL (wires g)) = distL g := distP_all g
    rw [hW] at HV ⊢
    rw [hG, ← hDA]
    have hpt := hg.pts
    have hw3 := hg.wrs
    have HWO := fun w1 (hb : Below w.heap.size w w1) => Lib.hid (wiresOf_c A R g cap w1 (by omega) (hr.later hb))
    have hm := @run_makeMap Try.prog
    clear hW hG hDA
    generalize hn : wires g = n at *
    have hn3 : n ≤ 3 := by omega
    refine (callsIn_wide (n := 9)).1 ?_
    refine callsIn_of_wp_marks Try.func29 rfl trivial ?_ rfl
    simp only [Try.ntmps29, List.size_toArray, List.length_cons, List.length_nil, Nat.reduceAdd, Nat.reduceSub, Array.replicate_succ, Array.replicate_zero, List.push_toArray, List.append_toArray, List.nil_append, List.cons_append]
    gi_wp2_with (fail)
    refine ⟨trivial, ?_⟩
    refine (callsIn_wide.2 HV.out).mono ?_
    rintro en w1 ⟨rfl, hb1⟩
    rw [errB_t]
    have hb01 := bl_call hbb hb1
    have x01 := x0.call hb1
    have hsw : w.heap.size + 1 ≤ w1.heap.size := by have := hb1.size; simp at this; omega
    clear x0 hb1 hbb c00 HV
    obtain ⟨c00, _⟩ := x01.one
    have hb3 := bl_alloc (bl_alloc hb01 (.map #[] 0)) (.cells #[.map (some w1.heap.size)] 77)
    have x5 : Bx ((w1.alloc (.map #[] 0)).alloc (.cells #[.map (some w1.heap.size)] 77)) (w1.heap.size + 1) 77 #[.map (some w1.heap.size)] := Bx.newAt (by simp)
    have m0 : OwnM ((w1.alloc (.map #[] 0)).alloc (.cells #[.map (some w1.heap.size)] 77)) w1.heap.size 0 (.map []) := World.ownsMap.alloc (World.ownsMap_made w1 _ _ _) _
    have x02 := (x01.alloc (.map #[] 0)).alloc (.cells #[.map (some w1.heap.size)] 77)
    have hs3 : ((w1.alloc (.map #[] 0)).alloc (.cells #[.map (some w1.heap.size)] 77)).heap.size = w1.heap.size + 2 := by simp
    have HWO3 := HWO _ hb3
    have c02 := x02.one.1
    gi_wp2_with (fail)
    refine ⟨trivial, ?_⟩
    refine (callsIn_wide.2 HWO3.out).mono ?_
    rintro en w2 ⟨rfl, rfl⟩
    gi_wp2_with (fail)
    refine ⟨trivial, ?_⟩
    refine (callsIn_wide.2 (voltages_c _ _)).mono ?_
    rintro en w2 ⟨rfl, hw2⟩
    have hb2 : Below ((w1.alloc (.map #[] 0)).alloc (.cells #[.map (some w1.heap.size)] 77)).heap.size ((w1.alloc (.map #[] 0)).alloc (.cells #[.map (some w1.heap.size)] 77)) w2 := by rw [← hw2]; exact bl_alloc (Below.refl _ _) (.cells #[.int .i64 n] 3)
    have hs2 : w2.heap.size = w1.heap.size + 3 := by rw [← hw2]; simp
    have y1 : Bx w2 (w1.heap.size + 2) 3 #[.int .i64 n] := by rw [← hw2]; exact Bx.newAt (by simp)
    replace x5 := x5.call hb2
    replace m0 := OwnM.call m0 hb2
    replace x02 := x02.call hb2
    have hb02 := bl_call hb3 hb2
    clear hw2 hb3 hs3 c02 HWO3 HWO hb2 c00 x01 hm
    gi_wp2_with (fail)
    generalize hN : w1.heap.size = N at *
    have hpow : (voltsL n).length ≤ 343 := by rw [voltsL_len]; exact pow_le hn3
    have HVM : Hid (∀ v, v ∈ voltsL n → OkV v (wires g) 3) := fun v hv => by rw [hn]; exact mem_volts.1 hv
    have HDS := Lib.hid (distP_snoc g)
    have hws : w.heap.size + 1 ≤ N := hsw
    refine wp_range (n := 9) (gf := 92) (lb := #[.pointer (some ⟨N + 1 + 1, 0, none⟩)]) rfl (enters_of Try.func92 (by kernel_rfl) rfl)
      (voltages_iter w2 n hn3 (N + 2) (fun k => k < w.heap.size + 1 ∨ k = N + 1 ∨ k = N + 2) (by omega) y1.one.1 (.inr (.inr rfl)))
      (Below.refl _ _) (by rintro k (h | h | h) <;> omega) (by rintro e x vs W' ⟨A', c, rfl, _⟩; rfl)
      (fun e pre X => Bx X w.heap.size 22 #[.slice A g.length cap] ∧ Bx X (N + 1) 77 #[.map (some N)] ∧ (∃ D, OwnM X N pre.length D ∧ Holds g.length D (distP g pre)) ∧ Below w.heap.size w X)
      (fun _ _ _ _ => False) ?hI (fun _ _ _ _ _ h _ => h.elim) ?h0
      (fun e x a' X => ∃ A' c, X.ownsRow e 3 1 (.slice A' x.length c) x.length (ints x) ∧ a' = { tmps := #[.slice A g.length cap, .pointer (some ⟨w.heap.size, 0, none⟩), .int .i64 0, .int .i64 0, .int .i64 0, .pointer (some ⟨N + 1, 0, none⟩), .slice A' x.length c, undef, .slice A g.length cap, .int .i64 0, .int .i64 0, .bool false, undef, .map (some N), .slice A g.length cap, .int .i64 n,
        .func (.func 92) #[] #[.pointer (some ⟨N + 1 + 1, 0, none⟩)], .slice A' x.length c, undef, undef, undef, undef, undef, undef, undef, undef, undef], defers := [] })
      ?hAx ?assign ?body ?done ?stop
    case hI =>
      rintro e s X Y ⟨h0, h1, ⟨D, h2, h3⟩, hb⟩ hm
      exact ⟨h0.mod hm (fun h => by have := h.1; omega), h1.mod hm (fun h => by have := h.1; omega), ⟨D, OwnM.mod h2 hm (fun h => by have := h.1; omega), h3⟩, hb.trans (hm.below hb.size (fun k hk h => by have := h.1; omega))⟩
    case h0 =>
      intro e X hb _ _
      exact ⟨x02.call hb, x5.call hb, ⟨_, OwnM.call m0 hb, holds_nil _⟩, bl_call hb02 hb⟩
    case hAx =>
      rintro e x a' X Y l' o ⟨A', c, hown, rfl⟩ hl' ⟨r, hr'⟩ rfl
      exact ⟨A', c, own_loop hown hr' o, rfl⟩
    case assign =>
      rintro l' e pre x vs X k he hes _ ⟨A', c, rfl, hown⟩ hk
      gi_wp2
      exact hk _ _ (Mod.refl _ X) ⟨A', c, hown, rfl⟩
    case body =>
      rintro l' e pre x a' X he hes ⟨t, hpre⟩ ⟨h0, h1, ⟨D, h2, h3⟩, hb⟩ ⟨A', c, hown, rfl⟩
      have hok := HVM.out x (by rw [hpre]; simp)
      have hpl : pre.length ≤ 343 := by have h9 := hpow; rw [hpre] at h9; simp at h9; omega
      have hbA := bl_alloc hb (.cells #[.int .i64 0, .int .i64 0, .int .i64 0] 79)
      have hbX := bl_alloc (Below.refl X.heap.size X) (.cells #[.int .i64 0, .int .i64 0, .int .i64 0] 79)
      have HF := Lib.hid (fieldOf_c A A' R g x cap c (X.alloc (.cells #[.int .i64 0, .int .i64 0, .int .i64 0] 79)).drew hg hok (hr.later hbA.drew) ((own_rd hown).1.later hbX.drew))
      have hfo := fld_ok hg hok
      have hfl := fieldL_len g x
      have HS := HDS.out pre x
      have hX1 := h1.lt
      have hX0 := h0.lt
      have hsz : (X.alloc (.cells #[.int .i64 0, .int .i64 0, .int .i64 0] 79)).drew.heap.size = X.heap.size + 1 := by simp
      rw [hsz] at HF
      have HALL : Hid (∀ w4, Row w4 (X.heap.size + 1) (fieldL g x) → Below (X.heap.size + 1) (X.alloc (.cells #[.int .i64 0, .int .i64 0, .int .i64 0] 79)).drew w4 → ∃ w5 w6, (Builtin.copy_ #[23, 23] 3 #[.slice (some ⟨X.heap.size, 0, none⟩) 3 3, .slice (some ⟨X.heap.size + 1, 0, none⟩) g.length g.length]).run Try.prog w4 = .ok (goInt (Nat.min g.length 3 : Nat)) w5 ∧
          w5.cell? ⟨N + 1, 0, none⟩ = some (.map (some N)) ∧ (w5.cell? ⟨X.heap.size, 0, none⟩ = some (.int .i64 ((fieldL g x).getD 0 0)) ∧ w5.cell? ⟨X.heap.size, 1, none⟩ = some (.int .i64 ((fieldL g x).getD 1 0)) ∧ w5.cell? ⟨X.heap.size, 2, none⟩ = some (.int .i64 ((fieldL g x).getD 2 0))) ∧
          (Instr.mapUpdate 77 (.map (some N)) (.agg #[.int .i64 ((fieldL g x).getD 0 0), .int .i64 ((fieldL g x).getD 1 0), .int .i64 ((fieldL g x).getD 2 0)]) (.bool true)).run Try.prog w5 = .ok () w6 ∧
          (Mod (fun k => ¬ (k < w.heap.size + 1 ∨ k = N + 1 ∨ k = N + 2) ∧ ¬ zone w2.heap.size e k) X w6 ∧ Bx w6 w.heap.size 22 #[.slice A g.length cap] ∧ Bx w6 (N + 1) 77 #[.map (some N)] ∧ (∃ D, OwnM w6 N (pre ++ [x]).length D ∧ Holds g.length D (distP g (pre ++ [x]))) ∧ Below w.heap.size w w6)) := fun w4 hR4 hb4 => by
        have hbX4 : Below X.heap.size X w4 := bl_call hbX.drew (by rw [hsz]; exact hb4)
        have hq4 : Bx w4 X.heap.size 79 #[.int .i64 0, .int .i64 0, .int .i64 0] := (Bx.drew (Bx.new X _ _)).call (by rw [hsz]; exact hb4)
        have hcp := run_copy_pad w4 3 X.heap.size (X.heap.size + 1) g.length (fieldL g x) 79 hfl hpt.2 hq4 hR4
        have hq5 : Bx (w4.setRow X.heap.size #[.int .i64 ((fieldL g x).getD 0 0), .int .i64 ((fieldL g x).getD 1 0), .int .i64 ((fieldL g x).getD 2 0)]) X.heap.size 79 #[.int .i64 ((fieldL g x).getD 0 0), .int .i64 ((fieldL g x).getD 1 0), .int .i64 ((fieldL g x).getD 2 0)] := setRow_heap _ _ _ _ _ _ hq4
        have hb5 : Below X.heap.size X (w4.setRow X.heap.size #[.int .i64 ((fieldL g x).getD 0 0), .int .i64 ((fieldL g x).getD 1 0), .int .i64 ((fieldL g x).getD 2 0)]) := bl_setRow hbX4 (Nat.le_refl _) _
        generalize hw5 : w4.setRow X.heap.size #[.int .i64 ((fieldL g x).getD 0 0), .int .i64 ((fieldL g x).getD 1 0), .int .i64 ((fieldL g x).getD 2 0)] = w5 at *
        have k0 := h0.call hb5
        have k1 := h1.call hb5
        obtain ⟨w6, D', hup, r1, r2, r3⟩ := put_field (OwnM.call h2 hb5) h3 (by omega) hfo hfl
        rw [← HS] at r2
        refine ⟨w5, w6, hcp, k1.one.1, ⟨hq5.cell 0, hq5.cell 1, hq5.cell 2⟩, hup, ?_⟩
        have hN5 : N < w5.heap.size := World.ownsMap.lt (OwnM.call h2 hb5)
        have hne : ∀ g', g' ≠ N → ∀ T cs, Bx w5 g' T cs → Bx w6 g' T cs := fun g' hg' T cs hx => (r3.block g' hx.lt (fun e => by injection e with e; exact hg' e)).trans hx
        refine ⟨(Mod.of_call hb5).grown r3 (fun k hk => by injection hk with hk; subst hk; exact .inr ⟨by rintro (h | h | h) <;> omega, fun h => by have := h.1; omega⟩), hne _ (by omega) _ _ k0, hne _ (by omega) _ _ k1, ⟨D', ?_, r2⟩, ?_⟩
        · rw [List.length_append]; exact r1
        · exact (hb.trans (hb5.mono hb.size)).grown r3 (by have := hb5.size; have := hb.size; omega) (fun k hk => by injection hk with hk; omega)
      have d0 : (X.alloc (.cells #[.int .i64 0, .int .i64 0, .int .i64 0] 79)).drew.cell? ⟨w.heap.size, 0, none⟩ = some (.slice A g.length cap) := ((h0.alloc _).drew).one.1
      generalize (fieldL g x).getD 0 0 = f0 at *
      generalize (fieldL g x).getD 1 0 = f1 at *
      generalize (fieldL g x).getD 2 0 = f2 at *
      clear hfo hfl HS hsz hbA hbX hok h2 h3 hown HDS
      have hmix : Try.prog.follows .mixedOrders = true := by kernel_rfl
      gi_wp2_with (fail)
      gi_region_with_o (first
        | (refine ⟨trivial, ?_⟩; refine (CallsIn.inRound l' (callsIn_wide.2 HF.out)).mono ?_; rintro en w4 ⟨rfl, hR4, hb4⟩; obtain ⟨w5, w6, hrun, e0, ⟨e1, e2, e3⟩, e4, hfin⟩ := HALL.out w4 hR4 hb4)
        | (simp [go_sem] at hrun; rw [hrun]; go_simp))
      all_goals
        clear HF HALL hrun d0
        gi_wp2_with (fail)
        exact hfin
    case stop =>
      intro D e c pre X _ _ _ _ h
      exact h.elim
    case done =>
      rintro D e X hD hDe hes ⟨h0, h1, ⟨D', h2, h3⟩, hb⟩ hK
      obtain ⟨y0, z0⟩ := h1.one
      have hlen := fun ty => World.ownsMap.len (t := 77) h2 Try.underlying77 ty
      rw [holds_size h3] at hlen
      generalize hm : (distP g (voltsL n)).length = m at *
      clear h2 h3
      gi_wp2_with (fail)
      refine ⟨by simp, .inl ⟨_, _, rfl, run_takeDeferred hK, ?_⟩⟩
      exact ⟨_, results_tmp2 rfl _ _ _, by rw [hm]; rfl, bl_put hb (by omega) _⟩
  · have hW' : okG g = false := by simpa using hW
    have hz : fldsG g = 0 := by unfold fldsG; rw [if_neg hW]
    rw [hW'] at HV ⊢
    rw [hz]
    go_enter Try.func29, Try.ntmps29
    go_wp2_with (fail)
    refine HV.out.mono ?_
    rintro e w1 ⟨rfl, hb1⟩
    rw [errB_f]
    go_wp2_with (fail)
    go_ret2
    exact ⟨rfl, bl_call hbb hb1⟩
end Go.Proofs.Ytmmjdabioolodaa
