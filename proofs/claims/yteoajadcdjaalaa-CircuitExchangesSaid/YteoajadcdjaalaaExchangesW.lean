/- The walk of the law on exchanges. -/
import Derived.Test.YteoajadcdjaalaaExM
import Derived.Test.YteoajadcdjaalaaCntD
import Derived.Test.YteoajadcdjaalaaLayersW
import Derived.Test.YteoajadcdjaalaaComm
namespace Go.Proofs.Yteoajadcdjaalaa
open Go.RowKit

theorem comm_ok2 {x y : G} (hx : gateB 4 x = true) (hy : gateB 4 y = true) : commE x y = 0 ∧ commR x y = commG x y := by
  have h : commE x y = 0 := by simp [commE, gatesE, hx, hy]
  exact ⟨h, by rw [commR, h]; rfl⟩
theorem type_decide {x y : G} : typeG x y = decide (keyG x = keyG y) := by rw [Bool.eq_iff_iff, typeG_iff]; simp
/-- What the exchange leaves as it was. -/
theorem swp_same {n : Int} {l : List G} {k : Nat} (hv : validE n l = 0) (h : k + 1 < l.length) (ht : tiedG (l.getD k g0) (l.getD (k + 1) g0) = false) :
    validE n (swpG l k) = 0 ∧ alikeB n l (swpG l k) = true ∧ bothE n l (swpG l k) = 0 ∧ nmL n (swpG l k) = nmL n l ∧ lysL n (swpG l k) = lysL n l ∧ cntL (swpG l k) = cntL l := by
  have ha := swp_alk h ht
  have hp := alk_perm ha
  have hv2 : validE n (swpG l k) = 0 := by rw [← validE_perm hp]; exact hv
  have hn := (alk_iff _ _).1 ha
  have hb : bothE n l (swpG l k) = 0 := by rw [bothE, if_pos hv, hv2]
  refine ⟨hv2, ?_, hb, ?_, ?_, cnt_swp h ht⟩
  · rw [alikeB, hb, hn]; simp [sameL]
  · rw [nmL, nmL, if_pos hv2, if_pos hv, hn]
  · rw [lysL, lysL, if_pos hv2, if_pos hv, lay_same ha]

set_option maxRecDepth 100000 in
set_option maxHeartbeats 8000000 in
theorem circuitExchanges_walk (n : Int) (A : Option Addr) (l : List G) (c : Nat) (at_ : Int) (w : World) (_hn : (Lit.int .i64 n).wf = true) (hr : Rd w A (cellsG l)) (_hat : (Lit.int .i64 at_).wf = true) :
    Calls Try.prog 7 #[.int .i64 n, .slice A l.length c, .int .i64 at_] w fun e w' => e = .returned (.bool true) ∧ Below w.heap.size w w' := by
  obtain ⟨i0, hi, hz0, hz1, hz2⟩ := info_parts gate_info
  have HL := fun w => Lib.hid (long_c A l.length c w)
  have HK := fun w => Lib.hid (known_c w)
  by_cases hlong : 50 < l.length
  · rw [decide_eq_true hlong] at HL
    go_enter Try.func7, Try.ntmps7
    go_wp2_with (fail)
    refine (HL _).out.mono ?_
    rintro e w1 ⟨rfl, rfl⟩
    go_wp2_with (fail)
    refine (HK _).out.mono ?_
    rintro e w2 ⟨rfl, hb2⟩
    go_wp2_with (fail)
    go_ret
    exact ⟨rfl, hb2⟩
  · rw [decide_eq_false hlong] at HL
    have hlen : l.length ≤ 1000 := by omega
    clear hlong
    have HV := fun w1 hr1 => Lib.hid (validate_c n A l c w1 hlen hr1)
    by_cases hv : validE n l = 0
    · have hgl := validE_gs hv
      by_cases h1 : at_ < 1
      · rw [hv] at HV
        go_enter Try.func7, Try.ntmps7
        go_wp2_with (fail)
        refine (HL _).out.mono ?_
        rintro e w1 ⟨rfl, rfl⟩
        go_wp2_with (fail)
        refine (HV _ hr).out.mono ?_
        rintro e w1 ⟨rfl, hb1⟩
        go_wp2_with (fail)
        refine (HK _).out.mono ?_
        rintro e w2 ⟨rfl, hb2⟩
        go_wp2_with (fail)
        go_ret
        exact ⟨rfl, bl_call hb1 hb2⟩
      · by_cases h2 : (l.length : Int) ≤ at_
        · rw [hv] at HV
          go_enter Try.func7, Try.ntmps7
          go_wp2_with (fail)
          refine (HL _).out.mono ?_
          rintro e w1 ⟨rfl, rfl⟩
          go_wp2_with (fail)
          refine (HV _ hr).out.mono ?_
          rintro e w1 ⟨rfl, hb1⟩
          go_wp2_with (fail)
          refine (HK _).out.mono ?_
          rintro e w2 ⟨rfl, hb2⟩
          go_wp2_with (fail)
          go_ret
          exact ⟨rfl, bl_call hb1 hb2⟩
        · obtain ⟨i, rfl⟩ : ∃ i : Nat, at_ = (i : Int) := ⟨at_.toNat, by omega⟩
          obtain ⟨k, hk⟩ : ∃ k : Nat, k + 1 = i := ⟨i - 1, by omega⟩
          have hil : i < l.length := by omega
          have hil' : (i : Int) < (l.length : Int) := by omega
          have hi1 : ¬ (i : Int) < 1 := h1
          have hkl : k < l.length := by omega
          have hkl' : (k : Int) < (l.length : Int) := by omega
          have hik : (i : Int) - 1 = (k : Int) := by omega
          have hwk : IntKind.i64.wrap (k : Int) = (k : Int) := by simp [IntKind.wrap, IntKind.bits, IntKind.signed]; omega
          have HSW := fun ht => Lib.hid (@swp_same n l k hv (by omega) ht)
          have hgi := Lib.hid (hgl.get hil)
          have hgk := Lib.hid (hgl.get hkl)
          have HKI := Lib.hid hk
          have HTE : Hid (tiedG (l.getD k g0) (l.getD (k + 1) g0) = (typeG (l.getD k g0) (l.getD i g0) || !commG (l.getD k g0) (l.getD i g0))) := by show _ = _; rw [hk]; rfl
          have HSL : Hid ((l.set k (l.getD i g0)).set i (l.getD k g0) = swpG l k) := by
            show _ = _
            rw [← hk, swpG, List.set_comm _ _ (by omega : k ≠ k + 1)]
          have HSWL := Lib.hid (swpG_len l k)
          have HA := fun (B : Option Addr) (d : Nat) (w1 : World) h1 h2 => Lib.hid (Alike_c n A B l (swpG l k) c d w1 hlen (by rw [swpG_len]; exact hlen) h1 h2)
          have HN1 := fun w1 h1 => Lib.hid (Name_c n A l c w1 hlen h1)
          have HN2 := fun (B : Option Addr) (d : Nat) (w1 : World) h1 => Lib.hid (Name_c n B (swpG l k) d w1 (by rw [swpG_len]; exact hlen) h1)
          have HL1 := fun w1 h1 => Lib.hid (Layers_c n A l c w1 hlen h1)
          have HL2 := fun (B : Option Addr) (d : Nat) (w1 : World) h1 => Lib.hid (Layers_c n B (swpG l k) d w1 (by rw [swpG_len]; exact hlen) h1)
          have HC1 := fun w1 h1 => Lib.hid (Count_c n A l c w1 hlen h1)
          have HC2 := fun (B : Option Addr) (d : Nat) (w1 : World) h1 => Lib.hid (Count_c n B (swpG l k) d w1 (by rw [swpG_len]; exact hlen) h1)
          have HTR : Hid ((lysL n l).length ≤ 1000 ∧ (∀ k, k < (lysL n l).length → ((lysL n l).getD k []).length ≤ 1000) ∧ (nmL n l).length ≤ 1000) := by
            have hfl : (lysL n l).flatten.length ≤ l.length := by
              have e : lysL n l = layL l := by rw [lysL, if_pos hv]
              obtain ⟨_, _, h3⟩ := lay_flat hv
              rw [e]; omega
            refine ⟨?_, fun k hk => ?_, ?_⟩
            · have e : lysL n l = layL l := by rw [lysL, if_pos hv]
              rw [e, layL, List.length_map, tabTo_len]
              have := cntTo_le (lvL l l.length) (lvL_range l l.length) l.length
              omega
            · have := (flat_take (lysL n l) hk).2
              omega
            · rw [nmL, if_pos hv, nameL_len]; exact hlen
          rw [swpG_len] at HA HN2 HL2 HC2
          rw [if_pos hv] at HC1
          rw [hv] at HV HN1 HL1 HC1
          clear hk h1 h2
          go_enter Try.func7, Try.ntmps7
          go_wp2_with (fail)
          refine (HL _).out.mono ?_
          rintro e w1 ⟨rfl, rfl⟩
          go_wp2_with (fail)
          refine (HV _ hr).out.mono ?_
          rintro e w1 ⟨rfl, hb1⟩
          have hrr := hr.later hb1
          have hR := Lib.hid (fun w2 (hb2 : Below w1.heap.size w1 w2) => (hrr.later hb2).gates2 hkl hil)
          obtain ⟨b, o, rfl, hbl, ⟨c0, c1, c2, c3⟩, d0, d1, d2, d3⟩ := hrr.gates2 hkl hil
          have hG : Hid (∀ w2, Below w1.heap.size w1 w2 →
              (w2.cell? ⟨b, o + k * 4, none⟩ = some (.int .i64 (l.getD k g0).1) ∧ w2.cell? ⟨b, o + k * 4 + 1, none⟩ = some (.int .i64 (l.getD k g0).2.1) ∧ w2.cell? ⟨b, o + k * 4 + 2, none⟩ = some (.int .i64 (l.getD k g0).2.2.1) ∧ w2.cell? ⟨b, o + k * 4 + 3, none⟩ = some (.int .i64 (l.getD k g0).2.2.2)) ∧
              (w2.cell? ⟨b, o + i * 4, none⟩ = some (.int .i64 (l.getD i g0).1) ∧ w2.cell? ⟨b, o + i * 4 + 1, none⟩ = some (.int .i64 (l.getD i g0).2.1) ∧ w2.cell? ⟨b, o + i * 4 + 2, none⟩ = some (.int .i64 (l.getD i g0).2.2.1) ∧ w2.cell? ⟨b, o + i * 4 + 3, none⟩ = some (.int .i64 (l.getD i g0).2.2.2))) := fun w2 hb2 => by
            obtain ⟨b', o', he, _, h1, h2⟩ := hR.out w2 hb2
            injection he with he
            injection he with e1 e2
            subst e1 e2
            exact ⟨h1, h2⟩
          clear hR
          generalize l.getD k g0 = x at *
          generalize l.getD i g0 = y at *
          obtain ⟨xk, xa, xb, xt⟩ := x
          obtain ⟨yk, ya, yb, yt⟩ := y
          simp only [] at c0 c1 c2 c3 d0 d1 d2 d3 hG
          obtain ⟨hce, hcr⟩ := comm_ok2 hgk.out hgi.out
          have HC := fun w => Lib.hid (Commute_c xk xa xb xt yk ya yb yt w)
          rw [hce, hcr] at HC
          have HTx := fun w => Lib.hid (rType_c xk xa xb xt w)
          have HTy := fun w => Lib.hid (rType_c yk ya yb yt w)
          have HTT : Hid (typeG (xk, xa, xb, xt) (yk, ya, yb, yt) = typeB xk xa xb yk ya yb) := rfl
          clear hce hcr hgi hgk
          generalize commG (xk, xa, xb, xt) (yk, ya, yb, yt) = cb at HC HTE
          generalize hTD : tiedG _ (l.getD (k + 1) g0) = td at HTE HSW
          clear hTD
          have hCC : Below w1.heap.size w1 w1.drew := (Below.refl _ _).drew
          have HS2 : Hid (td = (typeB xk xa xb yk ya yb || !cb)) := by show _ = _; rw [HTE.out, HTT.out]
          clear HTE HTT
          go_wp2_with (fail)
          refine wp_region_low (hCC) (by kernel_rfl) (by kernel_rfl) ?_
          repeat (first
            | go_big_quiet_skip
            | (go_big_quiet_want
               apply Exists.intro
               refine And.intro (fun W hW => ?_) ?_
               · (obtain ⟨⟨p0, p1, p2, p3⟩, q0, q1, q2, q3⟩ := hG.out W hW)
                 go_simp
                 first
                   | exact rfl
                   | ((refine (HC W).out.mono ?_; rintro e w1 ⟨rfl, hb1⟩; exact ⟨rfl, bl_call hW hb1⟩))
               try go_simp
               go_big_quiet_on))
          refine wpQuiet_nil ?_
          intro w9 hb9
          have hb19 := bl_call hb1 hb9
          have hG9 : Hid (∀ w2, Below w9.heap.size w9 w2 →
              (w2.cell? ⟨b, o + k * 4, none⟩ = some (.int .i64 xk) ∧ w2.cell? ⟨b, o + k * 4 + 1, none⟩ = some (.int .i64 xa) ∧ w2.cell? ⟨b, o + k * 4 + 2, none⟩ = some (.int .i64 xb) ∧ w2.cell? ⟨b, o + k * 4 + 3, none⟩ = some (.int .i64 xt)) ∧
              (w2.cell? ⟨b, o + i * 4, none⟩ = some (.int .i64 yk) ∧ w2.cell? ⟨b, o + i * 4 + 1, none⟩ = some (.int .i64 ya) ∧ w2.cell? ⟨b, o + i * 4 + 2, none⟩ = some (.int .i64 yb) ∧ w2.cell? ⟨b, o + i * 4 + 3, none⟩ = some (.int .i64 yt))) := fun w2 h2 => hG.out w2 (bl_call hb9 h2)
          clear hG hCC HV c0 c1 c2 c3 d0 d1 d2 d3
          have hCC9 : Below w9.heap.size w9 w9.drew := (Below.refl _ _).drew
          cases cb
          · go_wp2_with (fail)
            refine wp_region_low (hCC9) (by kernel_rfl) (by kernel_rfl) ?_
            repeat (first
              | go_big_quiet_skip
              | (go_big_quiet_want
                 apply Exists.intro
                 refine And.intro (fun W hW => ?_) ?_
                 · (skip)
                   go_simp
                   first
                     | exact rfl
                     | (fail)
                 try go_simp
                 go_big_quiet_on))
            refine wpQuiet_nil ?_
            intro w10 hb10
            go_wp2_with (fail)
            refine (HK _).out.mono ?_
            rintro e w2 ⟨rfl, hb2⟩
            go_wp2_with (fail)
            go_ret
            exact ⟨rfl, bl_call (bl_call hb19 hb10) hb2⟩
          · have htd : Hid (typeB xk xa xb yk ya yb = false → td = false) := fun h => by rw [HS2.out, h]; rfl
            clear HS2
            rcases type_cases xk xa xb yk ya yb with ⟨ht, hn⟩ | ⟨ht, rfl, hn⟩ | ⟨ht, rfl, rfl, hn⟩ | ⟨ht, rfl, rfl, rfl⟩
            · go_wp2_with (fail)
              refine wp_region_low (hCC9) (by kernel_rfl) (by kernel_rfl) ?_
              repeat (first
                | go_big_quiet_skip
                | (go_big_quiet_want
                   apply Exists.intro
                   refine And.intro (fun W hW => ?_) ?_
                   · (obtain ⟨⟨p0, p1, p2, p3⟩, q0, q1, q2, q3⟩ := hG9.out W hW)
                     go_simp
                     first
                       | exact rfl
                       | ((first | (refine (HTx W).out.mono ?_; rintro e w1 ⟨rfl, hb1⟩; exact ⟨rfl, bl_call hW hb1⟩) | (refine (HTy W).out.mono ?_; rintro e w1 ⟨rfl, hb1⟩; exact ⟨rfl, bl_call hW hb1⟩)))
                   try go_simp
                   go_big_quiet_on))
              refine wpQuiet_nil ?_
              intro w10 hb10
              obtain ⟨s1, s2, s3, s4, s5, s6⟩ := (HSW (htd.out ht)).out
              rw [s2, s3] at HA
              rw [s4, s1] at HN2
              rw [s5, s1] at HL2
              rw [if_pos s1, s1, s6] at HC2
              clear HSW htd s1 s2 s3 s4 s5 s6 HTx HTy HC ht hn hCC9
              generalize nmL n l = NM at *
              generalize lysL n l = T at *
              generalize cntL l = kc at *
              generalize swpG l k = sg at *
              have hb0A := bl_call hb19 hb10
              have hb1s := (bl_call hb9 hb10).size
              have hr10 : Rd w10 (some ⟨b, o, none⟩) (cellsG l) := hr.later hb0A
              have hG10 := Lib.hid (fun w2 h2 => hG9.out w2 (bl_call hb10 h2))
              have hb0 : Below w10.heap.size w10 (w10.alloc (.cells #[] 23)) := bl_alloc (Below.refl _ _) _
              have ho0 : (w10.alloc (.cells #[] 23)).ownsRow w10.heap.size 23 4 (.slice (some ⟨w10.heap.size, 0, none⟩) 0 0) 0 (cellsG []) := World.ownsRow_made (e := 23) (size := 4) w10 #[] 0 (Nat.le_refl _) (by decide) rfl
              clear hG9 hb9 hb19 hb1 hb10
              go_wp2_with (at_builtin; refine wpList_append_any rfl _ _ 29 rfl w10.heap.size 23 i0 _ 32 Try.underlying29 hi hz0 hz1 hz2 rfl _ 0 (cellsG []) rfl ho0 (some ⟨b, o, none⟩) l c rfl (hr10.later hb0) (by unfold maxLen; omega) (by omega) (by simp) ?_)
              intro A1 c1 w11 ho1 hg1
              have hb11 : Below w10.heap.size w10 w11 := hb0.trans (grown_below ho0 hg1 (by simp))
              try simp only [Nat.zero_add] at ho1
              have ho1' : w11.ownsRow w10.heap.size 23 4 (.slice A1 l.length c1) l.length (cellsG l) := ho1
              clear hg1 ho1 ho0 hb0
              obtain ⟨g, rfl, hgb, hgl, hfr, hcell⟩ := own_cell ho1' (by omega)
              have hic1 : i < c1 := by have := own_cap ho1'; omega
              obtain ⟨⟨p0, p1, p2, p3⟩, q0, q1, q2, q3⟩ := hG10.out w11 hb11
              obtain ⟨e0, e1, e2, e3⟩ := cellsG_get l k hkl
              obtain ⟨r0, r1, r2, r3⟩ := cellsG_get l i hil
              have e0 := hcell _ _ e0
              have e1 := hcell _ _ e1
              have e2 := hcell _ _ e2
              have e3 := hcell _ _ e3
              have r0 := hcell _ _ r0
              have r1 := hcell _ _ r1
              have r2 := hcell _ _ r2
              have r3 := hcell _ _ r3
              have f0 := hfr (k * 4)
              have f1 := hfr (k * 4 + 1)
              have f2 := hfr (k * 4 + 2)
              have f3 := hfr (k * 4 + 3)
              have f4 := hfr (i * 4)
              have f5 := hfr (i * 4 + 1)
              have f6 := hfr (i * 4 + 2)
              have f7 := hfr (i * 4 + 3)
              have hbg : b < g := by omega
              have hne : b ≠ g := by omega
              have hne2 : g ≠ b := Ne.symm hne
              have hki4 : k * 4 + 4 ≤ i * 4 := by have h := HKI.out; omega
              clear hfr hcell
              go_wp2_with (fail)
              have hO1 := own_set (own_set (own_set (own_set ho1' (p := k * 4) (.int .i64 yk)) (p := k * 4 + 1) (.int .i64 ya)) (p := k * 4 + 2) (.int .i64 yb)) (p := k * 4 + 3) (.int .i64 yt)
              rw [cellsG_set4 l k (yk, ya, yb, yt) hkl] at hO1
              have hO2 := own_set (own_set (own_set (own_set hO1 (p := i * 4) (.int .i64 xk)) (p := i * 4 + 1) (.int .i64 xa)) (p := i * 4 + 2) (.int .i64 xb)) (p := i * 4 + 3) (.int .i64 xt)
              rw [cellsG_set4 (l.set k (yk, ya, yb, yt)) i (xk, xa, xb, xt) (by simp; omega), HSL.out] at hO2
              have hbE := (((((((hb11.setCell (p := ⟨g, k * 4, none⟩) hgb (.int .i64 yk)).setCell (p := ⟨g, k * 4 + 1, none⟩) hgb (.int .i64 ya)).setCell (p := ⟨g, k * 4 + 2, none⟩) hgb (.int .i64 yb)).setCell (p := ⟨g, k * 4 + 3, none⟩) hgb (.int .i64 yt)).setCell (p := ⟨g, i * 4, none⟩) hgb (.int .i64 xk)).setCell (p := ⟨g, i * 4 + 1, none⟩) hgb (.int .i64 xa)).setCell (p := ⟨g, i * 4 + 2, none⟩) hgb (.int .i64 xb)).setCell (p := ⟨g, i * 4 + 3, none⟩) hgb (.int .i64 xt)
              clear p0 p1 p2 p3 q0 q1 q2 q3 e0 e1 e2 e3 r0 r1 r2 r3 f0 f1 f2 f3 f4 f5 f6 f7 hne hne2 hki4 hO1 ho1' hb11 hgl HSL
              have hr12 := hr10.later hbE
              have hs12 := (own_rd hO2).1
              have hb012 := bl_call hb0A hbE
              refine (HA _ _ _ hr12 hs12).out.mono ?_
              rintro e w13 ⟨rfl, hb13⟩
              clear HA
              have hr13 := hr12.later hb13
              have hs13 := hs12.later hb13
              have hb013 := bl_call hb012 hb13
              clear hO2 hbE hb13 hr12 hs12 hb012 hr10 hb0A
              go_wp2_with (fail)
              refine (HN1 _ hr13).out.mono ?_
              rintro e w14 ⟨A14, c14, rfl, ho14, hb14⟩
              go_wp2_with (fail)
              refine (HN2 _ _ _ (hs13.later hb14)).out.mono ?_
              rintro e w15 ⟨A15, c15, rfl, ho15, hb15⟩
              have hb015 := bl_call (bl_call hb013 hb14) hb15
              have hr15 := (hr13.later hb14).later hb15
              have hs15 := (hs13.later hb14).later hb15
              have ho14' := own_call ho14 hb15
              clear HN1 HN2 hb14 hr13 hs13 hb013 ho14
              go_wp2_with (fail)
              refine (HL1 _ hr15).out.mono ?_
              rintro e w16 ⟨A16, c16, hs16, rfl, ho16, ht16, hb16⟩
              go_wp2_with (fail)
              refine (HL2 _ _ _ (hs15.later hb16)).out.mono ?_
              rintro e w17 ⟨A17, c17, hs17, rfl, ho17, ht17, hb17⟩
              have hb1617 := bl_call hb16 hb17
              have hb017 := bl_call hb015 hb1617
              have hr17 := hr15.later hb1617
              have hs17' := hs15.later hb1617
              have ho14b := own_call ho14' hb1617
              have ho15b := own_call ho15 hb1617
              have ho16b := own_call ho16 hb17
              have ht16b := ht16.call hb17
              clear HL1 HL2 hb16 hb17 hr15 hs15 ho14' ho15 ho16 ht16 hb1617 hb015 hb15
              go_wp2_with (fail)
              refine (HC1 _ hr17).out.mono ?_
              rintro e w18 ⟨rfl, hb18⟩
              go_wp2_with (fail)
              refine (HC2 _ _ _ (hs17'.later hb18)).out.mono ?_
              rintro e w19 ⟨rfl, hb19⟩
              have hb1819 := bl_call hb18 hb19
              have HSM := Lib.hid (same_c A14 A15 NM NM c14 c15 w19 HTR.out.2.2 (own_rd (own_call ho14b hb1819)).1 (own_rd (own_call ho15b hb1819)).1)
              rw [show sameL NM NM = true by simp [sameL]] at HSM
              have HSLs := fun w20 (hb20 : Below w19.heap.size w19 w20) => Lib.hid (samelists_c A16 A17 T c16 c17 hs16 hs17 w20 HTR.out.1 HTR.out.2.1 (own_call ho16b (bl_call hb1819 hb20)) (ht16b.call (bl_call hb1819 hb20)) (own_call ho17 (bl_call hb1819 hb20)) (ht17.call (bl_call hb1819 hb20)))
              have hb019 := bl_call hb017 hb1819
              clear HC1 HC2 hb18 hb19 hr17 hs17' ho14b ho15b ho16b ht16b ho17 ht17 hb1819 hb017
              go_wp2_with (fail)
              refine HSM.out.mono ?_
              rintro e w20 ⟨rfl, hb20⟩
              go_wp2_with (fail)
              refine (HSLs _ hb20).out.mono ?_
              rintro e w21 ⟨rfl, hb21⟩
              go_wp2_with (fail)
              refine (HK _).out.mono ?_
              rintro e w22 ⟨rfl, hb22⟩
              go_wp2_with (fail)
              go_ret
              exact ⟨rfl, bl_call (bl_call (bl_call hb019 hb20) hb21) hb22⟩
            · go_wp2_with (fail)
              refine wp_region_low (hCC9) (by kernel_rfl) (by kernel_rfl) ?_
              repeat (first
                | go_big_quiet_skip
                | (go_big_quiet_want
                   apply Exists.intro
                   refine And.intro (fun W hW => ?_) ?_
                   · (obtain ⟨⟨p0, p1, p2, p3⟩, q0, q1, q2, q3⟩ := hG9.out W hW)
                     go_simp
                     first
                       | exact rfl
                       | ((first | (refine (HTx W).out.mono ?_; rintro e w1 ⟨rfl, hb1⟩; exact ⟨rfl, bl_call hW hb1⟩) | (refine (HTy W).out.mono ?_; rintro e w1 ⟨rfl, hb1⟩; exact ⟨rfl, bl_call hW hb1⟩)))
                   try go_simp
                   go_big_quiet_on))
              refine wpQuiet_nil ?_
              intro w10 hb10
              obtain ⟨s1, s2, s3, s4, s5, s6⟩ := (HSW (htd.out ht)).out
              rw [s2, s3] at HA
              rw [s4, s1] at HN2
              rw [s5, s1] at HL2
              rw [if_pos s1, s1, s6] at HC2
              clear HSW htd s1 s2 s3 s4 s5 s6 HTx HTy HC ht hn hCC9
              generalize nmL n l = NM at *
              generalize lysL n l = T at *
              generalize cntL l = kc at *
              generalize swpG l k = sg at *
              have hb0A := bl_call hb19 hb10
              have hb1s := (bl_call hb9 hb10).size
              have hr10 : Rd w10 (some ⟨b, o, none⟩) (cellsG l) := hr.later hb0A
              have hG10 := Lib.hid (fun w2 h2 => hG9.out w2 (bl_call hb10 h2))
              have hb0 : Below w10.heap.size w10 (w10.alloc (.cells #[] 23)) := bl_alloc (Below.refl _ _) _
              have ho0 : (w10.alloc (.cells #[] 23)).ownsRow w10.heap.size 23 4 (.slice (some ⟨w10.heap.size, 0, none⟩) 0 0) 0 (cellsG []) := World.ownsRow_made (e := 23) (size := 4) w10 #[] 0 (Nat.le_refl _) (by decide) rfl
              clear hG9 hb9 hb19 hb1 hb10
              go_wp2_with (at_builtin; refine wpList_append_any rfl _ _ 29 rfl w10.heap.size 23 i0 _ 32 Try.underlying29 hi hz0 hz1 hz2 rfl _ 0 (cellsG []) rfl ho0 (some ⟨b, o, none⟩) l c rfl (hr10.later hb0) (by unfold maxLen; omega) (by omega) (by simp) ?_)
              intro A1 c1 w11 ho1 hg1
              have hb11 : Below w10.heap.size w10 w11 := hb0.trans (grown_below ho0 hg1 (by simp))
              try simp only [Nat.zero_add] at ho1
              have ho1' : w11.ownsRow w10.heap.size 23 4 (.slice A1 l.length c1) l.length (cellsG l) := ho1
              clear hg1 ho1 ho0 hb0
              obtain ⟨g, rfl, hgb, hgl, hfr, hcell⟩ := own_cell ho1' (by omega)
              have hic1 : i < c1 := by have := own_cap ho1'; omega
              obtain ⟨⟨p0, p1, p2, p3⟩, q0, q1, q2, q3⟩ := hG10.out w11 hb11
              obtain ⟨e0, e1, e2, e3⟩ := cellsG_get l k hkl
              obtain ⟨r0, r1, r2, r3⟩ := cellsG_get l i hil
              have e0 := hcell _ _ e0
              have e1 := hcell _ _ e1
              have e2 := hcell _ _ e2
              have e3 := hcell _ _ e3
              have r0 := hcell _ _ r0
              have r1 := hcell _ _ r1
              have r2 := hcell _ _ r2
              have r3 := hcell _ _ r3
              have f0 := hfr (k * 4)
              have f1 := hfr (k * 4 + 1)
              have f2 := hfr (k * 4 + 2)
              have f3 := hfr (k * 4 + 3)
              have f4 := hfr (i * 4)
              have f5 := hfr (i * 4 + 1)
              have f6 := hfr (i * 4 + 2)
              have f7 := hfr (i * 4 + 3)
              have hbg : b < g := by omega
              have hne : b ≠ g := by omega
              have hne2 : g ≠ b := Ne.symm hne
              have hki4 : k * 4 + 4 ≤ i * 4 := by have h := HKI.out; omega
              clear hfr hcell
              go_wp2_with (fail)
              have hO1 := own_set (own_set (own_set (own_set ho1' (p := k * 4) (.int .i64 xk)) (p := k * 4 + 1) (.int .i64 ya)) (p := k * 4 + 2) (.int .i64 yb)) (p := k * 4 + 3) (.int .i64 yt)
              rw [cellsG_set4 l k (xk, ya, yb, yt) hkl] at hO1
              have hO2 := own_set (own_set (own_set (own_set hO1 (p := i * 4) (.int .i64 xk)) (p := i * 4 + 1) (.int .i64 xa)) (p := i * 4 + 2) (.int .i64 xb)) (p := i * 4 + 3) (.int .i64 xt)
              rw [cellsG_set4 (l.set k (xk, ya, yb, yt)) i (xk, xa, xb, xt) (by simp; omega), HSL.out] at hO2
              have hbE := (((((((hb11.setCell (p := ⟨g, k * 4, none⟩) hgb (.int .i64 xk)).setCell (p := ⟨g, k * 4 + 1, none⟩) hgb (.int .i64 ya)).setCell (p := ⟨g, k * 4 + 2, none⟩) hgb (.int .i64 yb)).setCell (p := ⟨g, k * 4 + 3, none⟩) hgb (.int .i64 yt)).setCell (p := ⟨g, i * 4, none⟩) hgb (.int .i64 xk)).setCell (p := ⟨g, i * 4 + 1, none⟩) hgb (.int .i64 xa)).setCell (p := ⟨g, i * 4 + 2, none⟩) hgb (.int .i64 xb)).setCell (p := ⟨g, i * 4 + 3, none⟩) hgb (.int .i64 xt)
              clear p0 p1 p2 p3 q0 q1 q2 q3 e0 e1 e2 e3 r0 r1 r2 r3 f0 f1 f2 f3 f4 f5 f6 f7 hne hne2 hki4 hO1 ho1' hb11 hgl HSL
              have hr12 := hr10.later hbE
              have hs12 := (own_rd hO2).1
              have hb012 := bl_call hb0A hbE
              refine (HA _ _ _ hr12 hs12).out.mono ?_
              rintro e w13 ⟨rfl, hb13⟩
              clear HA
              have hr13 := hr12.later hb13
              have hs13 := hs12.later hb13
              have hb013 := bl_call hb012 hb13
              clear hO2 hbE hb13 hr12 hs12 hb012 hr10 hb0A
              go_wp2_with (fail)
              refine (HN1 _ hr13).out.mono ?_
              rintro e w14 ⟨A14, c14, rfl, ho14, hb14⟩
              go_wp2_with (fail)
              refine (HN2 _ _ _ (hs13.later hb14)).out.mono ?_
              rintro e w15 ⟨A15, c15, rfl, ho15, hb15⟩
              have hb015 := bl_call (bl_call hb013 hb14) hb15
              have hr15 := (hr13.later hb14).later hb15
              have hs15 := (hs13.later hb14).later hb15
              have ho14' := own_call ho14 hb15
              clear HN1 HN2 hb14 hr13 hs13 hb013 ho14
              go_wp2_with (fail)
              refine (HL1 _ hr15).out.mono ?_
              rintro e w16 ⟨A16, c16, hs16, rfl, ho16, ht16, hb16⟩
              go_wp2_with (fail)
              refine (HL2 _ _ _ (hs15.later hb16)).out.mono ?_
              rintro e w17 ⟨A17, c17, hs17, rfl, ho17, ht17, hb17⟩
              have hb1617 := bl_call hb16 hb17
              have hb017 := bl_call hb015 hb1617
              have hr17 := hr15.later hb1617
              have hs17' := hs15.later hb1617
              have ho14b := own_call ho14' hb1617
              have ho15b := own_call ho15 hb1617
              have ho16b := own_call ho16 hb17
              have ht16b := ht16.call hb17
              clear HL1 HL2 hb16 hb17 hr15 hs15 ho14' ho15 ho16 ht16 hb1617 hb015 hb15
              go_wp2_with (fail)
              refine (HC1 _ hr17).out.mono ?_
              rintro e w18 ⟨rfl, hb18⟩
              go_wp2_with (fail)
              refine (HC2 _ _ _ (hs17'.later hb18)).out.mono ?_
              rintro e w19 ⟨rfl, hb19⟩
              have hb1819 := bl_call hb18 hb19
              have HSM := Lib.hid (same_c A14 A15 NM NM c14 c15 w19 HTR.out.2.2 (own_rd (own_call ho14b hb1819)).1 (own_rd (own_call ho15b hb1819)).1)
              rw [show sameL NM NM = true by simp [sameL]] at HSM
              have HSLs := fun w20 (hb20 : Below w19.heap.size w19 w20) => Lib.hid (samelists_c A16 A17 T c16 c17 hs16 hs17 w20 HTR.out.1 HTR.out.2.1 (own_call ho16b (bl_call hb1819 hb20)) (ht16b.call (bl_call hb1819 hb20)) (own_call ho17 (bl_call hb1819 hb20)) (ht17.call (bl_call hb1819 hb20)))
              have hb019 := bl_call hb017 hb1819
              clear HC1 HC2 hb18 hb19 hr17 hs17' ho14b ho15b ho16b ht16b ho17 ht17 hb1819 hb017
              go_wp2_with (fail)
              refine HSM.out.mono ?_
              rintro e w20 ⟨rfl, hb20⟩
              go_wp2_with (fail)
              refine (HSLs _ hb20).out.mono ?_
              rintro e w21 ⟨rfl, hb21⟩
              go_wp2_with (fail)
              refine (HK _).out.mono ?_
              rintro e w22 ⟨rfl, hb22⟩
              go_wp2_with (fail)
              go_ret
              exact ⟨rfl, bl_call (bl_call (bl_call hb019 hb20) hb21) hb22⟩
            · go_wp2_with (fail)
              refine wp_region_low (hCC9) (by kernel_rfl) (by kernel_rfl) ?_
              repeat (first
                | go_big_quiet_skip
                | (go_big_quiet_want
                   apply Exists.intro
                   refine And.intro (fun W hW => ?_) ?_
                   · (obtain ⟨⟨p0, p1, p2, p3⟩, q0, q1, q2, q3⟩ := hG9.out W hW)
                     go_simp
                     first
                       | exact rfl
                       | ((first | (refine (HTx W).out.mono ?_; rintro e w1 ⟨rfl, hb1⟩; exact ⟨rfl, bl_call hW hb1⟩) | (refine (HTy W).out.mono ?_; rintro e w1 ⟨rfl, hb1⟩; exact ⟨rfl, bl_call hW hb1⟩)))
                   try go_simp
                   go_big_quiet_on))
              refine wpQuiet_nil ?_
              intro w10 hb10
              obtain ⟨s1, s2, s3, s4, s5, s6⟩ := (HSW (htd.out ht)).out
              rw [s2, s3] at HA
              rw [s4, s1] at HN2
              rw [s5, s1] at HL2
              rw [if_pos s1, s1, s6] at HC2
              clear HSW htd s1 s2 s3 s4 s5 s6 HTx HTy HC ht hn hCC9
              generalize nmL n l = NM at *
              generalize lysL n l = T at *
              generalize cntL l = kc at *
              generalize swpG l k = sg at *
              have hb0A := bl_call hb19 hb10
              have hb1s := (bl_call hb9 hb10).size
              have hr10 : Rd w10 (some ⟨b, o, none⟩) (cellsG l) := hr.later hb0A
              have hG10 := Lib.hid (fun w2 h2 => hG9.out w2 (bl_call hb10 h2))
              have hb0 : Below w10.heap.size w10 (w10.alloc (.cells #[] 23)) := bl_alloc (Below.refl _ _) _
              have ho0 : (w10.alloc (.cells #[] 23)).ownsRow w10.heap.size 23 4 (.slice (some ⟨w10.heap.size, 0, none⟩) 0 0) 0 (cellsG []) := World.ownsRow_made (e := 23) (size := 4) w10 #[] 0 (Nat.le_refl _) (by decide) rfl
              clear hG9 hb9 hb19 hb1 hb10
              go_wp2_with (at_builtin; refine wpList_append_any rfl _ _ 29 rfl w10.heap.size 23 i0 _ 32 Try.underlying29 hi hz0 hz1 hz2 rfl _ 0 (cellsG []) rfl ho0 (some ⟨b, o, none⟩) l c rfl (hr10.later hb0) (by unfold maxLen; omega) (by omega) (by simp) ?_)
              intro A1 c1 w11 ho1 hg1
              have hb11 : Below w10.heap.size w10 w11 := hb0.trans (grown_below ho0 hg1 (by simp))
              try simp only [Nat.zero_add] at ho1
              have ho1' : w11.ownsRow w10.heap.size 23 4 (.slice A1 l.length c1) l.length (cellsG l) := ho1
              clear hg1 ho1 ho0 hb0
              obtain ⟨g, rfl, hgb, hgl, hfr, hcell⟩ := own_cell ho1' (by omega)
              have hic1 : i < c1 := by have := own_cap ho1'; omega
              obtain ⟨⟨p0, p1, p2, p3⟩, q0, q1, q2, q3⟩ := hG10.out w11 hb11
              obtain ⟨e0, e1, e2, e3⟩ := cellsG_get l k hkl
              obtain ⟨r0, r1, r2, r3⟩ := cellsG_get l i hil
              have e0 := hcell _ _ e0
              have e1 := hcell _ _ e1
              have e2 := hcell _ _ e2
              have e3 := hcell _ _ e3
              have r0 := hcell _ _ r0
              have r1 := hcell _ _ r1
              have r2 := hcell _ _ r2
              have r3 := hcell _ _ r3
              have f0 := hfr (k * 4)
              have f1 := hfr (k * 4 + 1)
              have f2 := hfr (k * 4 + 2)
              have f3 := hfr (k * 4 + 3)
              have f4 := hfr (i * 4)
              have f5 := hfr (i * 4 + 1)
              have f6 := hfr (i * 4 + 2)
              have f7 := hfr (i * 4 + 3)
              have hbg : b < g := by omega
              have hne : b ≠ g := by omega
              have hne2 : g ≠ b := Ne.symm hne
              have hki4 : k * 4 + 4 ≤ i * 4 := by have h := HKI.out; omega
              clear hfr hcell
              go_wp2_with (fail)
              have hO1 := own_set (own_set (own_set (own_set ho1' (p := k * 4) (.int .i64 xk)) (p := k * 4 + 1) (.int .i64 xa)) (p := k * 4 + 2) (.int .i64 yb)) (p := k * 4 + 3) (.int .i64 yt)
              rw [cellsG_set4 l k (xk, xa, yb, yt) hkl] at hO1
              have hO2 := own_set (own_set (own_set (own_set hO1 (p := i * 4) (.int .i64 xk)) (p := i * 4 + 1) (.int .i64 xa)) (p := i * 4 + 2) (.int .i64 xb)) (p := i * 4 + 3) (.int .i64 xt)
              rw [cellsG_set4 (l.set k (xk, xa, yb, yt)) i (xk, xa, xb, xt) (by simp; omega), HSL.out] at hO2
              have hbE := (((((((hb11.setCell (p := ⟨g, k * 4, none⟩) hgb (.int .i64 xk)).setCell (p := ⟨g, k * 4 + 1, none⟩) hgb (.int .i64 xa)).setCell (p := ⟨g, k * 4 + 2, none⟩) hgb (.int .i64 yb)).setCell (p := ⟨g, k * 4 + 3, none⟩) hgb (.int .i64 yt)).setCell (p := ⟨g, i * 4, none⟩) hgb (.int .i64 xk)).setCell (p := ⟨g, i * 4 + 1, none⟩) hgb (.int .i64 xa)).setCell (p := ⟨g, i * 4 + 2, none⟩) hgb (.int .i64 xb)).setCell (p := ⟨g, i * 4 + 3, none⟩) hgb (.int .i64 xt)
              clear p0 p1 p2 p3 q0 q1 q2 q3 e0 e1 e2 e3 r0 r1 r2 r3 f0 f1 f2 f3 f4 f5 f6 f7 hne hne2 hki4 hO1 ho1' hb11 hgl HSL
              have hr12 := hr10.later hbE
              have hs12 := (own_rd hO2).1
              have hb012 := bl_call hb0A hbE
              refine (HA _ _ _ hr12 hs12).out.mono ?_
              rintro e w13 ⟨rfl, hb13⟩
              clear HA
              have hr13 := hr12.later hb13
              have hs13 := hs12.later hb13
              have hb013 := bl_call hb012 hb13
              clear hO2 hbE hb13 hr12 hs12 hb012 hr10 hb0A
              go_wp2_with (fail)
              refine (HN1 _ hr13).out.mono ?_
              rintro e w14 ⟨A14, c14, rfl, ho14, hb14⟩
              go_wp2_with (fail)
              refine (HN2 _ _ _ (hs13.later hb14)).out.mono ?_
              rintro e w15 ⟨A15, c15, rfl, ho15, hb15⟩
              have hb015 := bl_call (bl_call hb013 hb14) hb15
              have hr15 := (hr13.later hb14).later hb15
              have hs15 := (hs13.later hb14).later hb15
              have ho14' := own_call ho14 hb15
              clear HN1 HN2 hb14 hr13 hs13 hb013 ho14
              go_wp2_with (fail)
              refine (HL1 _ hr15).out.mono ?_
              rintro e w16 ⟨A16, c16, hs16, rfl, ho16, ht16, hb16⟩
              go_wp2_with (fail)
              refine (HL2 _ _ _ (hs15.later hb16)).out.mono ?_
              rintro e w17 ⟨A17, c17, hs17, rfl, ho17, ht17, hb17⟩
              have hb1617 := bl_call hb16 hb17
              have hb017 := bl_call hb015 hb1617
              have hr17 := hr15.later hb1617
              have hs17' := hs15.later hb1617
              have ho14b := own_call ho14' hb1617
              have ho15b := own_call ho15 hb1617
              have ho16b := own_call ho16 hb17
              have ht16b := ht16.call hb17
              clear HL1 HL2 hb16 hb17 hr15 hs15 ho14' ho15 ho16 ht16 hb1617 hb015 hb15
              go_wp2_with (fail)
              refine (HC1 _ hr17).out.mono ?_
              rintro e w18 ⟨rfl, hb18⟩
              go_wp2_with (fail)
              refine (HC2 _ _ _ (hs17'.later hb18)).out.mono ?_
              rintro e w19 ⟨rfl, hb19⟩
              have hb1819 := bl_call hb18 hb19
              have HSM := Lib.hid (same_c A14 A15 NM NM c14 c15 w19 HTR.out.2.2 (own_rd (own_call ho14b hb1819)).1 (own_rd (own_call ho15b hb1819)).1)
              rw [show sameL NM NM = true by simp [sameL]] at HSM
              have HSLs := fun w20 (hb20 : Below w19.heap.size w19 w20) => Lib.hid (samelists_c A16 A17 T c16 c17 hs16 hs17 w20 HTR.out.1 HTR.out.2.1 (own_call ho16b (bl_call hb1819 hb20)) (ht16b.call (bl_call hb1819 hb20)) (own_call ho17 (bl_call hb1819 hb20)) (ht17.call (bl_call hb1819 hb20)))
              have hb019 := bl_call hb017 hb1819
              clear HC1 HC2 hb18 hb19 hr17 hs17' ho14b ho15b ho16b ht16b ho17 ht17 hb1819 hb017
              go_wp2_with (fail)
              refine HSM.out.mono ?_
              rintro e w20 ⟨rfl, hb20⟩
              go_wp2_with (fail)
              refine (HSLs _ hb20).out.mono ?_
              rintro e w21 ⟨rfl, hb21⟩
              go_wp2_with (fail)
              refine (HK _).out.mono ?_
              rintro e w22 ⟨rfl, hb22⟩
              go_wp2_with (fail)
              go_ret
              exact ⟨rfl, bl_call (bl_call (bl_call hb019 hb20) hb21) hb22⟩
            · go_wp2_with (fail)
              refine wp_region_low (hCC9) (by kernel_rfl) (by kernel_rfl) ?_
              repeat (first
                | go_big_quiet_skip
                | (go_big_quiet_want
                   apply Exists.intro
                   refine And.intro (fun W hW => ?_) ?_
                   · (obtain ⟨⟨p0, p1, p2, p3⟩, q0, q1, q2, q3⟩ := hG9.out W hW)
                     go_simp
                     first
                       | exact rfl
                       | ((first | (refine (HTx W).out.mono ?_; rintro e w1 ⟨rfl, hb1⟩; exact ⟨rfl, bl_call hW hb1⟩) | (refine (HTy W).out.mono ?_; rintro e w1 ⟨rfl, hb1⟩; exact ⟨rfl, bl_call hW hb1⟩)))
                   try go_simp
                   go_big_quiet_on))
              refine wpQuiet_nil ?_
              intro w10 hb10
              go_wp2_with (fail)
              refine (HK _).out.mono ?_
              rintro e w2 ⟨rfl, hb2⟩
              go_wp2_with (fail)
              go_ret
              exact ⟨rfl, bl_call (bl_call hb19 hb10) hb2⟩
    · have hne : ¬ validE n l = 0 := hv
      generalize validE n l = ev at *
      go_enter Try.func7, Try.ntmps7
      go_wp2_with (fail)
      refine (HL _).out.mono ?_
      rintro e w1 ⟨rfl, rfl⟩
      go_wp2_with (fail)
      refine (HV _ hr).out.mono ?_
      rintro e w1 ⟨rfl, hb1⟩
      go_wp2_with (fail)
      refine (HK _).out.mono ?_
      rintro e w2 ⟨rfl, hb2⟩
      go_wp2_with (fail)
      go_ret
      exact ⟨rfl, bl_call hb1 hb2⟩
end Go.Proofs.Yteoajadcdjaalaa
