/- All areas of closed pulses: the program's way. -/
import Derived.Test.YtpjdojjdhbmbjaaArSet
import Derived.Test.YtpjdojjdhbmbjaaSrch
import Derived.Sort.OwnSortedInts
namespace Go.Proofs.Ytpjdojjdhbmbjaa
open Go.RowKit Go.Shelf Go.Sort
attribute [local go_sem] Oper.semAt_some


set_option maxRecDepth 100000 in
set_option maxHeartbeats 4000000 in
theorem areas_c (B : Option Addr) (l : List Int) (cap : Nat) (n f : Int) (w : World) (hl : l.length ≤ 1000) (hr : Rd w B (ints l)) :
    Calls Try.prog 51 #[.slice B l.length cap, .int .i64 n, .int .i64 f] w (AreasOut l n f w) := by
  obtain ⟨i0, hi, hz0, hz1, hz2⟩ := info_parts int_info
  have hb00 : Below w.heap.size w (w.alloc (.cells #[.slice B l.length cap] 22)) := bl_alloc (Below.refl _ _) _
  have hvs := validateSearch_c B l cap n f _ (by omega) (hr.later hb00)
  by_cases hE : searchE l n f = 0
  · obtain ⟨hn0, hn6, hf1, hf2, ham⟩ := searchE_f hE
    obtain ⟨fn, rfl⟩ := Int.eq_ofNat_of_zero_le (show 0 ≤ f by omega)
    obtain ⟨nn, rfl⟩ := Int.eq_ofNat_of_zero_le hn0
    have hfn : fn ≤ 2 := by omega
    have hnn : nn ≤ 6 := by omega
    have hl0 := areModes_len ham
    have HL : Hid (Lib.compact (((closedL l fn nn).map (arF l)).mergeSort fun x y => decide (x ≤ y)) = areasL l nn fn) := by
      show _ = _
      rw [compact_arSet (ar_closed hnn hfn), areasL, if_pos hE]; simp
    have HO : Hid (∀ A c w', Rd w' A (ints (areasL l nn fn)) → Below w.heap.size w w' → AreasOut l nn fn w (.returned (.tuple #[.slice A (areasL l nn fn).length c, .int .i64 0])) w') := fun A c w' h1 h2 => ⟨A, c, by rw [hE], h1, h2⟩
    generalize AreasOut l nn fn w = FO at HO
    generalize areasL l nn fn = RL at HL HO
    have hne : 0 < (closedL l fn nn).length := List.length_pos_of_mem (zero_in l fn nn)
    have hcnt : (closedL l fn nn).length ≤ 15625 := by
      have h1 := pow_le6 hfn hnn
      have h2 : (closedL l fn nn).length ≤ (pulsesL fn nn).length := List.length_filter_le _ _
      rw [pulsesL_length] at h2
      omega
    rw [hE] at hvs
    have HVS := Lib.hid hvs
    clear hvs hE ham hn0 hn6 hf1 hf2
    refine (callsIn_wide (n := 9)).1 ?_
    refine callsIn_of_wp_marks Try.func51 rfl trivial ?_ rfl
    simp only [Try.ntmps51, List.size_toArray, List.length_cons, List.length_nil, Nat.reduceAdd, Nat.reduceSub, Array.replicate_succ, Array.replicate_zero, List.push_toArray, List.append_toArray, List.nil_append, List.cons_append]
    gi_wp2_with (fail)
    refine ⟨trivial, ?_⟩
    refine (callsIn_wide.2 HVS.out).mono ?_
    rintro en w' ⟨rfl, rfl⟩
    have x00 : Bx (w.alloc (.cells #[.slice B l.length cap] 22)) w.heap.size 22 #[.slice B l.length cap] := Bx.newAt rfl
    clear HVS
    gi_wp2_with (fail)
    refine ⟨trivial, ?_⟩
    have hb0 := bl_alloc hb00 (.cells #[.slice none 0 0] 22)
    have x0 := x00.alloc (.cells #[.slice none 0 0] 22)
    have x1 : Bx ((w.alloc (.cells #[.slice B l.length cap] 22)).alloc (.cells #[.slice none 0 0] 22)) (w.heap.size + 1) 22 #[.slice none 0 0] := Bx.newAt (by simp)
    have hsz : w.heap.size + 2 ≤ ((w.alloc (.cells #[.slice B l.length cap] 22)).alloc (.cells #[.slice none 0 0] 22)).heap.size := by simp
    have hr0 := hr.later hb0
    generalize (w.alloc (.cells #[.slice B l.length cap] 22)).alloc (.cells #[.slice none 0 0] 22) = w0 at hb0 x0 x1 hsz hr0 ⊢
    clear x00 hb00
    refine (callsIn_wide.2 (closedPulses_c _ _ _ _ _ _)).mono ?_
    rintro en w1 ⟨rfl, hw1⟩
    have hb1 : Below w0.heap.size w0 w1 := by rw [← hw1]; exact bl_alloc (bl_alloc (bl_alloc (Below.refl _ _) _) _) _
    have hs1 : w1.heap.size = w0.heap.size + 3 := by rw [← hw1]; simp
    have z0 : Bx w1 w0.heap.size 22 #[.slice B l.length cap] := by rw [← hw1]; exact ((Bx.newAt rfl).alloc _).alloc _
    have z1 : Bx w1 (w0.heap.size + 1) 3 #[.int .i64 nn] := by rw [← hw1]; exact (Bx.newAt (by simp)).alloc _
    have z2 : Bx w1 (w0.heap.size + 2) 3 #[.int .i64 fn] := by rw [← hw1]; exact Bx.newAt (by simp)
    clear hw1
    have hrX := hr0.later hb1
    have hrb := hr.blk
    gi_wp2_with (fail)
    refine wp_range (n := 9) (gf := 95) (lb := #[.pointer (some ⟨w0.heap.size + 1, 0, none⟩), .pointer (some ⟨w0.heap.size + 2, 0, none⟩), .pointer (some ⟨w0.heap.size, 0, none⟩)]) rfl (enters_of Try.func95 (by kernel_rfl) rfl)
      (closed_iter w1 B l cap nn fn hnn hfn (by omega) (w0.heap.size + 1) (w0.heap.size + 2) w0.heap.size (fun k => k < w.heap.size ∨ k = w0.heap.size) (by omega) (by omega) (by omega) z1.one.1 z2.one.1 z0.one.1 hrX (by omega) (.inr rfl) (fun a e h => .inl (hrb a e h)))
      (Below.refl _ _) (by omega) (by rintro x vs W' ⟨A, c, rfl, _⟩; rfl)
      (fun e pre Y => Bx Y w.heap.size 22 #[.slice B l.length cap] ∧ (∃ v, Bx Y (w.heap.size + 1) 22 #[v] ∧ Y.ownsRow e 3 1 v pre.length (ints (pre.map (arF l)))) ∧ Below w.heap.size w Y)
      (fun _ _ _ _ => False) ?hI (fun _ _ _ _ _ h _ => h.elim) ?h0
      (fun x a' Y => ∃ A c, Rd Y A (ints x) ∧ a' = { tmps := #[.slice B l.length cap, .int .i64 nn, .int .i64 fn, .pointer (some ⟨w.heap.size, 0, none⟩), undef, undef, .slice none 0 0, .int .i64 0, .int .i64 0, .pointer (some ⟨w.heap.size + 1, 0, none⟩), .slice A x.length c,
        .slice B l.length cap, .int .i64 nn, .int .i64 fn, .int .i64 0, .int .i64 0, .bool false, undef, .slice B l.length cap, .int .i64 nn, .int .i64 fn,
        .func (.func 95) #[] #[.pointer (some ⟨w0.heap.size + 1, 0, none⟩), .pointer (some ⟨w0.heap.size + 2, 0, none⟩), .pointer (some ⟨w0.heap.size, 0, none⟩)], .slice A x.length c, undef, undef, undef, undef, undef, undef, undef, undef, undef, undef, undef, undef], defers := [] })
      ?hAx ?assign ?body ?done ?stop
    case hI =>
      rintro e s Y Z ⟨h0, ⟨v, h1, h2⟩, h6⟩ hm
      have hz : ∀ k, k < w1.heap.size → ¬ zone w1.heap.size e k := fun k hk h => by have := h.1; omega
      exact ⟨h0.mod hm (hz _ (by omega)), ⟨v, h1.mod hm (hz _ (by omega)), own_mod h2 hm (fun k hk h => by have h3 := (h2.lt k hk).1; have h4 := h.2; omega)⟩, h6.trans (hm.below h6.size (fun k hk => hz _ (by omega)))⟩
    case h0 =>
      intro e Y hbY _ _
      have hbX := bl_call hb1 hbY
      exact ⟨x0.call hbX, ⟨_, x1.call hbX, World.ownsRow_nil _ _ _ _⟩, hb0.trans (hbX.mono (by omega))⟩
    case hAx =>
      rintro x a' Y Z l' o ⟨A, c, hrd, rfl⟩ hl' ⟨r, hr'⟩ rfl
      exact ⟨A, c, hrd.put hr' o, rfl⟩
    case assign =>
      rintro l' e pre x vs Y k he hes _ ⟨A, c, rfl, hrd⟩ hk
      gi_wp2
      exact hk _ _ (Mod.refl _ Y) ⟨A, c, hrd, rfl⟩
    case body =>
      rintro l' e pre x a' Y he hes ⟨t, hpre⟩ ⟨h0, ⟨v, h1, hown⟩, h6⟩ ⟨A, c, hrx, rfl⟩
      have hxl : x.length ≤ 6 := by
        have hmem : x ∈ closedL l fn nn := by rw [hpre]; simp
        rw [pulses_len (f := fn) (n := nn) (List.mem_filter.1 hmem).1]; exact hnn
      have hpl : pre.length + 1 ≤ 15625 := by
        have h := congrArg List.length hpre
        simp at h
        omega
      obtain ⟨bb, oo, rfl, hbb, hcc⟩ := (hr.later h6).at_ (k := 0) (by simpa using hl0)
      have hc0 := hcc 0 _ (ints_get hl0)
      rw [Nat.add_zero] at hc0
      have HAR : Hid (arF l x = areaP (pathL (l.getD 0 0) x)) := rfl
      generalize l.getD 0 0 = m at hc0 HAR
      have HP := Lib.hid (areaOf_c A x c m Y.drew (by omega) hrx)
      generalize areaP (pathL m x) = q at HP HAR
      obtain ⟨hx0, hy0⟩ := h0.one
      obtain ⟨hx1, hy1⟩ := h1.one
      clear hcc
      have hmix : Try.prog.follows .mixedOrders = true := by kernel_rfl
      have HAP := fun w4 (hb4 : Below Y.drew.heap.size Y.drew w4) => Lib.hid (run_append_own (P := Try.prog) (w := w4.alloc (.cells #[.int .i64 q] 3)) e 22 22 3 i0 _ 1 8 Try.underlying22 hi hz0 hz1 hz2 rfl (by decide) v pre.length _ ((own_call (show Y.drew.ownsRow e 3 1 v pre.length _ from hown) hb4).alloc _) ⟨w4.heap.size, 0, none⟩ 1 1 [.int .i64 q] rfl (cell_new1 _ _ _) (fun u hu => by rw [List.mem_singleton.1 hu]; rfl) (by unfold maxLen; omega) (by omega) (by rw [World.size_alloc]; have h : Y.heap.size ≤ w4.heap.size := hb4.size; omega))
      clear hr x0 x1 z0 z1 z2 hrX hrb hr0 hb0 hb1 hi hz0 hz1 hz2 hpre HL HO hne hcnt hl hrx hxl hpl
      gi_wp2_with (fail)
      gi_region_with_o (first | (refine ⟨trivial, ?_⟩; refine (CallsIn.inRound l' (callsIn_wide.2 HP.out)).mono ?_; rintro en w4 ⟨rfl, hb4⟩; have h0' := (h0.drew.call hb4).one; have h1' := (h1.drew.call hb4).one; have hc4 := (hb4.cell (p := ⟨bb, oo, none⟩) hbb).trans hc0; have hsz4 : w.heap.size + 1 < w4.heap.size := (h1.drew.call hb4).lt; obtain ⟨v', w5, hrun, ho5, hg5, _⟩ := (HAP w4 hb4).out; obtain ⟨A5, c5, rfl⟩ := own_form ho5; have m5 : Mod (fun k => e ≤ k) Y w5 := (((Mod.refl _ Y).drew.call hb4).alloc _).grown hg5 (fun k hk => .inr (hown.lt k hk).1); have hnb : ¬ e ≤ w.heap.size + 1 := (by omega); have h1'' := (h1.mod m5 hnb).one) | (simp [go_sem] at hrun; rw [hrun]; go_simp))
      all_goals
        have j0 := h0.mod m5 (by omega)
        have j1 := h1.mod m5 hnb
        have hb7 : Below w.heap.size w w5 := h6.trans (m5.below h6.size (fun k hk h => by omega))
        have HO5 : Hid (w5.ownsRow e 3 1 (.slice A5 (pre.length + 1) c5) (pre ++ [x]).length (ints ((pre ++ [x]).map (arF l)))) := by
          show World.ownsRow _ _ _ _ _ _ _
          rw [List.map_append, List.length_append, List.map_cons, List.map_nil, HAR.out, ints_snoc]; exact ho5
        clear HP HAP hc0 hx0 hx1 hy0 hy1 hb4 h0' h1' hc4 hmix h1'' hrun ho5 hg5
        gi_wp2_with (fail)
        refine ⟨(m5.weak (fun k hk => ⟨by omega, fun h => by have := h.2; omega⟩)).setCell (.inr ⟨by omega, fun h => by have := h.1; omega⟩) _, j0.far (by omega) _, ⟨_, j1.set1 _, ?_⟩, bl_set hb7 (by omega) _⟩
        exact own_mod (S := fun k => k = w.heap.size + 1) HO5.out ((Mod.refl (fun k => k = w.heap.size + 1) w5).setCell (.inr rfl) _) (fun k hk h => by have h3 := (HO5.out.lt k hk).1; omega)
    case stop =>
      intro D e c pre W _ _ _ _ h
      exact h.elim
    case done =>
      rintro D e Y hD hDe hes ⟨h0, ⟨v, h1, hown⟩, h6⟩ hK
      obtain ⟨hx1, hy1⟩ := h1.one
      have hml : ((closedL l fn nn).map (arF l)).length = (closedL l fn nn).length := by simp
      obtain ⟨g, cap1, rfl, hbg, hgl, hnc, hcm, hlen1, hH⟩ := Lib.holds_of_ownsRow (show Y.ownsRow e 3 1 v (closedL l fn nn).length (((closedL l fn nn).map (arF l)).map (Value.int .i64)) from hown) (fun e0 => by subst e0; have h := hown.2; rcases h with ⟨_, h⟩ | ⟨g, cap, cur, h, _⟩; omega; cases h)
      have hsort := Any.slices_Sort_int Try.laysSort g 0 cap1 ((closedL l fn nn).map (arF l)) Y hH hgl (by omega)
      rw [hml] at hsort
      obtain ⟨cur, hheap, hcs⟩ : ∃ cur : Array Value, Y.heap[g]? = some (.cells cur 3 (0, 0)) ∧ cur.size = cap1 * 1 := by
        rcases hown.2 with ⟨h, _⟩ | ⟨g', cap', cur, h, _, h3, _, _, h5, _⟩
        · cases h
        · cases h; exact ⟨cur, h3, h5⟩
      have hsl : (((closedL l fn nn).map (arF l)).mergeSort fun x y => decide (x ≤ y)).length = ((closedL l fn nn).map (arF l)).length := List.length_mergeSort _
      have hgD : g < D ∨ D < g := by
        rcases Nat.lt_trichotomy g D with h | h | h
        · exact .inl h
        · subst h; rw [hheap] at hK; cases hK
        · exact .inr h
      have hsorted := fun n os => ownsRow_sortedI (base := e) (n := n) (os := os) (ts := ((closedL l fn nn).map (arF l)).mergeSort fun x y => decide (x ≤ y)) (ss := (closedL l fn nn).map (arF l)) hsl hbg hheap (by rw [hml]; exact hnc) hcm hcs
      have hgrown := fun n os => grownBy_sortedI (w := Y) (g := g) (n := n) (os := os) (((closedL l fn nn).map (arF l)).mergeSort fun x y => decide (x ≤ y)).toArray
      generalize hS : (((closedL l fn nn).map (arF l)).mergeSort fun x y => decide (x ≤ y)) = S at hsort hsl hsorted hgrown
      have HS := Lib.hid hS
      clear hS
      rw [hml] at hsl hsorted
      have HSL := Lib.hid hsl
      clear hsl
      have HSO := Lib.hid hsort
      clear hsort
      gi_wp2_with (fail)
      refine ⟨trivial, ?_⟩
      refine (callsIn_wide.2 HSO.out).mono ?_
      rintro en w2 ⟨rfl, nq, os, rfl⟩
      have ho2 := hsorted nq os
      have hg2 := hgrown nq os
      have m2 : Mod (fun k => k = g) Y (grow (putRow (Value.int .i64) (Sort.ahead Y nq) g 0 S.toArray) os) := (Mod.refl (fun k => k = g) Y).grown hg2 (fun k hk => .inr (by cases hk; rfl))
      generalize grow (putRow (Value.int .i64) (Sort.ahead Y nq) g 0 S.toArray) os = w2 at *
      have hge : w.heap.size + 1 < g := by omega
      have j1 := h1.mod m2 (by omega)
      obtain ⟨hx1', hy1'⟩ := j1.one
      have hK2 := (m2.block D (Array.getElem?_eq_some_iff.1 hK).1 (by omega)).trans hK
      have hb2 : Below w.heap.size w w2 := h6.trans (m2.below h6.size (fun k hk h => by omega))
      obtain ⟨_, _, _, _, _, _, _, _, hH2⟩ := Lib.holds_of_ownsRow ho2 (by simp)
      obtain ⟨g', cap', hv, _, _, _, _, _, hH2⟩ := Lib.holds_of_ownsRow ho2 (by simp)
      cases hv
      have hcomp := Any.slices_Compact_int Try.laysCompact g 0 cap1 S w2 hH2 (by rw [HSL.out]; omega) (by rw [HSL.out]; exact hnc)
      rw [HSL.out] at hcomp
      have HCO := Lib.hid hcomp
      have hcl := Lib.compact_length_le S
      have HRL : Hid (Lib.compact S = RL) := by show _ = _; rw [← HS.out]; exact HL.out
      have HCL := Lib.hid hcl
      clear hcomp hcl hx1 hy1 hK m2 hg2 hH2 hH h1 hown hsorted hgrown
      gi_wp2_with (fail)
      refine ⟨trivial, ?_⟩
      refine (callsIn_wide.2 HCO.out).mono ?_
      rintro en w3 ⟨rfl, nq2, rfl⟩
      have hyl : (Lib.compact S ++ List.replicate ((closedL l fn nn).length - (Lib.compact S).length) 0).length = (closedL l fn nn).length := by
        have h1 := HCL.out
        have h2 := HSL.out
        rw [List.length_append, List.length_replicate]; omega
      have ho3 := Lib.ownsRow_putRow (q := nq2) (ys := Lib.compact S ++ List.replicate ((closedL l fn nn).length - (Lib.compact S).length) 0) ho2 hyl (by have h1 := HCL.out; have h2 := HSL.out; omega : (Lib.compact S).length ≤ (closedL l fn nn).length)
      rw [List.take_left] at ho3
      have hb3 := Lib.below_putRow (enc := Value.int .i64) (q := nq2) (d := (Lib.compact S ++ List.replicate ((closedL l fn nn).length - (Lib.compact S).length) 0).toArray) hb2 (by omega : w.heap.size ≤ g)
      have hK3 : (putRow (Value.int .i64) (Sort.ahead w2 nq2) g 0 (Lib.compact S ++ List.replicate ((closedL l fn nn).length - (Lib.compact S).length) 0).toArray).heap[D]? = some (.deferred (some [])) := by
        rw [← hK2]; simp [putRow, mapBlock, Sort.ahead, Array.getElem?_modify, show g ≠ D by omega]
      generalize putRow (Value.int .i64) (Sort.ahead w2 nq2) g 0 (Lib.compact S ++ List.replicate ((closedL l fn nn).length - (Lib.compact S).length) 0).toArray = w3 at *
      rw [HRL.out] at ho3 ⊢
      clear hyl hK2 ho2 hb2
      gi_wp2_with (fail)
      refine ⟨by simp, .inl ⟨_, _, rfl, run_takeDeferred hK3, ?_⟩⟩
      have ho4 := own_mod (S := fun k => k = D) ho3 ((Mod.refl (fun k => k = D) w3).putObj (.inr rfl) (.deferred none)) (fun k hk h => by cases hk; have h3 : g = D := h; omega)
      exact ⟨.tuple #[.slice (some ⟨g, 0, none⟩) RL.length cap1, .int .i64 0], by simp [results, Try.f51, go_sem], HO.out _ _ _ (own_rd ho4).1 (bl_put hb3 (by omega) _)⟩
  · have hE' : (searchE l n f != 0) = true := by simpa using hE
    have HO : Hid (∀ w', Below w.heap.size w w' → AreasOut l n f w (.returned (.tuple #[.slice none 0 0, .int .i64 (searchE l n f)])) w') := fun w' h => by
      have hL : areasL l n f = [] := by rw [areasL, if_neg hE]
      exact ⟨none, 0, by rw [hL]; rfl, by rw [hL]; exact .inl rfl, h⟩
    generalize hEE : searchE l n f = E at hvs hE' HO
    have HEE := Lib.hid hEE
    clear hEE
    have x00 := Bx.new w 22 #[.slice B l.length cap]
    obtain ⟨hx0, hy0⟩ := x00.one
    have HVS := Lib.hid hvs
    clear hvs hE
    go_enter Try.func51, Try.ntmps51
    go_wp2_with (fail)
    refine HVS.out.mono ?_
    rintro e w' ⟨rfl, rfl⟩
    go_wp2_with (fail)
    go_ret2
    exact HO.out _ hb00
end Go.Proofs.Ytpjdojjdhbmbjaa
