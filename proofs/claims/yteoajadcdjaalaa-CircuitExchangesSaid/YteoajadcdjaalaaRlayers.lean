/- The document's Layers and SameLists. -/
import Derived.Test.YteoajadcdjaalaaLayB
import Derived.Test.YteoajadcdjaalaaDepth
import Derived.Test.YteoajadcdjaalaaRname
namespace Go.Proofs.Yteoajadcdjaalaa
open Go.RowKit

set_option maxRecDepth 100000 in
set_option maxHeartbeats 4000000 in
theorem rLayers_c (n : Int) (A : Option Addr) (l : List G) (c : Nat) (w : World) (hlen : l.length ≤ 1000) (hcap : l.length ≤ c) (hr : Rd w A (cellsG l)) :
    Calls Try.prog 34 #[.int .i64 n, .slice A l.length c] w fun e w' => ∃ A' c' hs, e = .returned (.tuple #[.slice A' (lysL n l).length c', .int .i64 (validE n l)]) ∧ w'.ownsRow w.heap.size 29 1 (.slice A' (lysL n l).length c') (lysL n l).length hs ∧ TabG w' w.heap.size hs (lysL n l) ∧ Below w.heap.size w w' := by
  obtain ⟨i0, hi, hz0, hz1, hz2⟩ := info_parts gate_info
  obtain ⟨i1, hj, hy0, hy1, hy2⟩ := info_parts gslice_info
  have HV := Lib.hid (rvalidate_c n A l c w hlen hr)
  by_cases hv : validE n l = 0
  · have hgl := validE_gs hv
    have HB : lysL n l = layL l := by rw [lysL, if_pos hv]
    have hA0 : ∀ a, A = some a → cellsG l ≠ [] → a.block < w.heap.size := Rd.blk hr
    rw [hv] at HV
    rw [hv, HB]
    clear HB
    go_enter Try.func34, Try.ntmps34
    go_wp2_with (fail)
    refine HV.out.mono ?_
    rintro e w0 ⟨rfl, hb0⟩
    have hr0 := hr.later hb0
    go_wp2_with (fail)
    go_loopg [1, 7] l.length (fun gk cv ov wr => ∃ (m : List G) (A' : Option Addr) (c' : Nat) (hs : List Value) (ls : List (List G)), Hid (m.length = gk) ∧ Hid (ls.length + gk ≤ l.length) ∧ m.length ≤ c' ∧ Gs m ∧ cv = .slice A' m.length c' ∧ Hid (layL l = ls ++ layL m) ∧ wr.ownsRow w.heap.size 29 1 ov ls.length hs ∧ TabG wr w.heap.size hs ls ∧ Rd wr A' (cellsG m) ∧
        Hid ((∀ a, A' = some a → cellsG m ≠ [] → a.block < w.heap.size) ∨ wr.ownsRow w.heap.size 23 4 (.slice A' m.length c') m.length (cellsG m)) ∧ Below w.heap.size w wr)
    case atStart => exact ⟨l, A, c, [], [], rfl, by show _ ≤ _; simp, hcap, hgl, rfl, rfl, World.ownsRow_nil _ _ _ _, TabG.nil _ _, hr0, .inl hA0, hb0⟩
    case round =>
      obtain ⟨m, A', c', hs, ls, HM, HLn, hmc, hgm, rfl, HL, hown, htb, hrm, HSrc, hb⟩ := hrel
      obtain ⟨B, d, rfl⟩ := own_form hown
      rcases gk with _ | gi
      · have hm0 : m = [] := List.length_eq_zero_iff.1 HM.out
        subst hm0
        have HL' : Hid (layL l = ls) := by have h := HL.out; show _ = _; rw [h, lay_nil rfl, List.append_nil]
        clear HSrc hrm
        go_wp2_with (fail)
        go_ret2
        exact ⟨B, d, hs, by rw [HL'.out]; rfl, by rw [HL'.out]; exact hown, by rw [HL'.out]; exact htb, hb⟩
      · have hm1 : m ≠ [] := by rintro rfl; have h := HM.out; simp at h
        have hml : 0 < m.length := List.length_pos_iff.2 hm1
        have hml' : (0 : Int) < (m.length : Int) := by omega
        have hmle : m.length ≤ 1000 := by have h := HM.out; have h2 := HLn.out; omega
        have HF := Lib.hid (rfirsts_c A' m c' wr hmle hgm hrm)
        have HR := Lib.hid (frTo_range m m.length)
        have HLF := Lib.hid (fun j t h1 h2 => @last_free m j t h1 h2)
        have HNF := Lib.hid (none_free m)
        have hfl := frTo_len m m.length
        have hfp : 0 < (frTo m m.length).length := by rw [← fr_len]; exact fr_pos hm1
        have HSM := Lib.hid (lay_step_math hm1)
        obtain ⟨F, hF⟩ : ∃ F, F = frTo m m.length := ⟨_, rfl⟩
        rw [← hF] at HF HR hfl hfp
        obtain ⟨wo, rfl⟩ : ∃ wo : World, wo = wr := ⟨_, rfl⟩
        have hFl : F.length = (frTo m m.length).length := by rw [hF]
        have HFe := Lib.hid hF
        have HFl := Lib.hid hFl
        clear hF hFl hm1
        go_wp2_with (fail)
        refine HF.out.mono ?_
        rintro e w1 ⟨A1, c1, rfl, ho1, hb1⟩
        have hrF := (own_rd ho1).1
        obtain ⟨b1, o1, rfl, hbl1, hcF⟩ := hrF.at_ (k := 0) (by simpa using hfp)
        have HcF : Hid (∀ w2, Below w1.heap.size w1 w2 → ∀ j, j < F.length → w2.cell? ⟨b1, o1 + j, none⟩ = some (.int .i64 (F.getD j 0))) := fun w2 h2 j hj => (h2.cell (p := ⟨b1, o1 + j, none⟩) hbl1).trans (hcF j _ (ints_get hj))
        have hrm1 := hrm.later hb1
        have hbb := bl_call hb hb1
        clear hcF HF
        go_wp2_with (fail)
        go_loopg [1, 9, 10] F.length (fun gk cv lv iv wi => ∃ (t : Nat) (lst : List G) (A2 : Option Addr) (c2 : Nat), Hid (t ≤ m.length) ∧ Hid ((frTo m t).length = gk) ∧ iv = .int .i64 ((gk : Int) - 1) ∧ cv = .slice A2 (keepG m t).length c2 ∧ (keepG m t).length ≤ c2 ∧ Rd wi A2 (cellsG (keepG m t)) ∧ Hid ((lst ++ frG m t).Perm (frG m m.length)) ∧ Hid (lst.length + gk = F.length) ∧
            wi.ownsRow w1.heap.size 23 4 lv lst.length (cellsG lst) ∧ Hid (∀ a, A2 = some a → ∀ k, lv.ownBlock = some k → a.block ≠ k) ∧ Hid (gk < F.length → wi.ownsRow w1.heap.size 23 4 (.slice A2 (keepG m t).length c2) (keepG m t).length (cellsG (keepG m t))) ∧ Below w1.heap.size w1 wi)
        case atStart => exact ⟨m.length, [], A', c', Nat.le_refl _, HFl.out.symm, rfl, by rw [keepG_all], by rw [keepG_all]; exact hmc, by rw [keepG_all]; exact hrm1, List.Perm.refl _, by simp [Hid], World.ownsRow_nil _ _ _ _, (fun a _ k h => by cases h), (fun h => absurd h (Nat.lt_irrefl _)), Below.refl _ _⟩
        case round =>
          obtain ⟨t, lst, A2, c2, HTm, HTg, rfl, rfl, hkc, hrk, HPm, HLl, hol, HDis, HOw, hb3⟩ := hrel
          obtain ⟨B2, d2, rfl⟩ := own_form hol
          rcases gk with _ | gj
          · obtain ⟨hk1, hk2⟩ := HNF.out t HTm.out HTg.out
            have HP : Hid (lst.Perm (frG m m.length)) := by have h := HPm.out; rw [hk2, List.append_nil] at h; exact h
            have HOw' := HOw.out hfp
            rw [hk1, keepG_zero] at HOw' hrk hkc ⊢
            have hl9 : lst.length ≤ 1000 := by have h := HLl.out; omega
            have HSo := Lib.hid (sorted_c B2 lst d2 wr hl9 (own_rd hol).1)
            have HSg := Lib.hid (sortG_congr HP.out)
            have HSl := Lib.hid (sortG_len lst)
            have hnn : Hid ((nfG m m.length).length + 1 ≤ m.length) := by have h1 := fr_nf_len m m.length; have h2 : 0 < (frG m m.length).length := by rw [fr_len, ← HFl.out]; exact hfp
                                                                          show _ ≤ _; omega
            have hgn : Gs (nfG m m.length) := by have h := keepG_gs hgm 0; rwa [keepG_zero] at h
            have hls : ls.length ≤ 1000 := by have h := HLn.out; omega
            have hneg : ¬ (0 : Int) ≤ ((0 : Nat) : Int) - 1 := by decide
            have hneg2 : ¬ (0 : Int) ≤ -1 := by decide
            clear HLF HNF HTm HTg HPm HLl HDis HOw HR HcF
            go_wp2_with (fail)
            refine HSo.out.mono ?_
            rintro e w5 ⟨A5, c5, rfl, ho5, hb5⟩
            have hb15 := bl_call (bl_call hb1 hb3) hb5
            have hb05 := bl_call hb hb15
            have hown5 := own_call hown hb15
            have htbr := htb.call (bl_call hb1 hb3)
            have ho5' : w5.ownsRow wr.heap.size 23 4 (.slice A5 (sortG (frG m m.length)).length c5) (sortG (frG m m.length)).length (cellsG (sortG (frG m m.length))) := by
              rw [← HSg.out, HSl.out]; exact ho5
            have hsl : (sortG (frG m m.length)).length = lst.length := by rw [← HSg.out, HSl.out]
            have htb5 := (htbr.call hb5).snoc (htbr.lt) (by have := (bl_call hb (bl_call hb1 hb3)).size; omega) ho5'
            rw [hsl] at htb5
            have hmo5 := own_call HOw' hb5
            clear ho5 ho5' hsl htbr HSo
            go_wp2_with (at_builtin; refine wpList_append_own _ rfl _ _ 41 rfl w.heap.size 29 i1 _ 1 24 Try.underlying41 hj hy0 hy1 hy2 rfl (by decide) _ _ _ rfl (hown5.alloc _) ⟨w5.heap.size, 0, none⟩ 1 1 [.slice A5 lst.length c5] rfl rfl (cell_new1 _ _ _) (by intro u hu; rw [List.mem_singleton.1 hu]; rfl) (by unfold maxLen; omega) (by omega) (by have := hb05.size; rw [World.size_alloc]; omega) ?_)
            intro v7 w7 hown7 hg7 _
            have hal := bl_alloc (Below.refl w5.heap.size w5) (.cells #[.slice A5 lst.length c5] 29)
            have hba : Below w.heap.size w (w5.alloc (.cells #[.slice A5 lst.length c5] 29)) := bl_call hb05 hal
            have hb7 : Below w.heap.size w w7 := hba.trans (grown_below (hown5.alloc _) hg7 hba.size)
            have htb7 := TabG.grown (htb5.call hal) (hown5.alloc _) (by decide) hg7
            have hmo7 := (own_call hmo5 hal).kept hg7 (by
              cases hbk : (Value.slice A2 (nfG m m.length).length c2).ownBlock with
              | none => exact .inl rfl
              | some b => exact .inr (fun e => own_apart (own_call hmo5 hal) (hown5.alloc _) (by decide) b hbk e.symm))
            have HL7 : Hid (layL l = (ls ++ [sortG (frG m m.length)]) ++ layL (nfG m m.length)) := by
              show _ = _
              rw [HL.out, HSM.out]; simp
            have hown7' : Hid (w7.ownsRow w.heap.size 29 1 v7 (ls ++ [sortG (frG m m.length)]).length (hs ++ [.slice A5 lst.length c5])) := by
              show World.ownsRow _ _ _ _ _ _ _
              rw [List.length_append]; exact hown7
            clear hown7 hg7 hmo5 htb5 hown5 HSM HL HOw'
            go_wp2_with (fail)
            go_roundg (nfG m m.length).length
            case rel => exact ⟨nfG m m.length, A2, c2, _, _, rfl, by have h := HLn.out; have h2 := hnn.out; have h3 := HM.out; show _ ≤ _; simp; omega, hkc, hgn, rfl, HL7, hown7'.out, htb7, (own_rd hmo7).1, .inr (own_base hmo7 (by have := hbb.size; omega)), hb7⟩
            case measure => have h2 := hnn.out; have h3 := HM.out; omega
          · obtain ⟨t0, ht0, hf0, hl0, hF0, hk0, hfr0⟩ := HLF.out gj t HTm.out HTg.out
            have htm0 : t0 < m.length := by have h := HTm.out; omega
            rw [hk0] at hrk hkc ⊢
            obtain ⟨hkg1, hkg2⟩ := keepG_get (m := m) htm0
            have hke := keepG_erase htm0 hf0
            have hgjF : gj < F.length := by have h := HLl.out; omega
            have hgjF' : (gj : Int) < (F.length : Int) := by omega
            have hgj3 : (gj : Int) ≤ 1000 := by omega
            have e1 : ((gj + 1 : Nat) : Int) - 1 = (gj : Int) := by omega
            rw [e1]
            have hc1 := HcF.out wr hb3 gj hgjF
            have hF1 : F.getD gj 0 = (t0 : Int) := by rw [HFe.out]; exact hF0
            rw [hF1] at hc1
            have Hc1 : Hid (∀ w2, Below w1.heap.size w1 w2 → w2.cell? ⟨b1, o1 + gj, none⟩ = some (.int .i64 (t0 : Int))) := fun w2 h2 => by rw [← hF1]; exact HcF.out w2 h2 gj hgjF
            have hkl : (keepG m (t0 + 1)).length ≤ 1000 := by have := keepG_len m (t0 + 1) (by omega); omega
            have hkl' : (t0 : Int) < ((keepG m (t0 + 1)).length : Int) := by omega
            have hPm2 : Hid (((lst ++ [m.getD t0 g0]) ++ frG m t0).Perm (frG m m.length)) := by
              have h := HPm.out
              rw [hfr0] at h
              have e : frG m (t0 + 1) = frG m t0 ++ [m.getD t0 g0] := by rw [frG, if_pos hf0]
              rw [e] at h
              refine List.Perm.trans ?_ h
              rw [List.append_assoc]
              exact List.Perm.append_left _ List.perm_append_comm
            have HW := fun w1 h1 => Lib.hid (without_c A2 (keepG m (t0 + 1)) c2 t0 w1 hkl hkc hkg1 h1)
            rw [hke] at HW
            have hl0' := Lib.hid hl0
            have hlst : lst.length ≤ 1000 := by have h := HLl.out; omega
            obtain ⟨b2, o2, rfl, hG⟩ := gate_at hrk hkg1
            rw [hkg2] at hG
            clear hkg2 hke hF1 hF0 hk0 hfr0 hf0 hl0 HLF HNF HPm HOw HcF HTm HTg HFl
            generalize keepG m (t0 + 1) = K at *
            obtain ⟨d0, d1, d2', d3⟩ := hG.out _ (Below.refl _ _)
            generalize m.getD t0 g0 = x at *
            obtain ⟨xk, xa, xb, xt⟩ := x
            simp only [] at d0 d1 d2' d3
            have hrd3 : Rd (wr.alloc (.cells #[.int .i64 xk, .int .i64 xa, .int .i64 xb, .int .i64 xt] 23)) (some ⟨wr.heap.size, 0, none⟩) (cellsG [(xk, xa, xb, xt)]) := Bx.rd (cs := [.int .i64 xk, .int .i64 xa, .int .i64 xb, .int .i64 xt]) (Bx.new wr 23 _)
            have hb4 := bl_alloc hb3 (.cells #[.int .i64 xk, .int .i64 xa, .int .i64 xb, .int .i64 xt] 23)
            have hrm4 := hrk.later (bl_alloc (Below.refl _ _) (.cells #[.int .i64 xk, .int .i64 xa, .int .i64 xb, .int .i64 xt] 23))
            go_wp2_with (at_builtin; refine wpList_append_any rfl _ _ 29 rfl w1.heap.size 23 i0 _ 32 Try.underlying29 hi hz0 hz1 hz2 rfl _ lst.length (cellsG lst) rfl (hol.alloc _) (some ⟨wr.heap.size, 0, none⟩) [(xk, xa, xb, xt)] 1 rfl hrd3 (by unfold maxLen; simp; omega) (by simp; omega) hb4.size ?_)
            intro A5 c5 w5 hown5 hg5
            have hb5 := hb4.trans (grown_below (hol.alloc _) hg5 hb4.size)
            have hrm5 := hrm4.mod (Mod.grown (Mod.refl (fun k => (Value.slice B2 lst.length d2).ownBlock = some k) _) hg5 (fun k e => .inr e)) (fun a ha _ _ hS => HDis.out a ha a.block hS rfl)
            have hown6 : Hid (w5.ownsRow w1.heap.size 23 4 (.slice A5 (lst.length + [(xk, xa, xb, xt)].length) c5) (lst ++ [(xk, xa, xb, xt)]).length (cellsG (lst ++ [(xk, xa, xb, xt)]))) := by
              show World.ownsRow _ _ _ _ _ _ _
              rw [cellsG_append, List.length_append]; exact hown5
            have HW5 := HW _ hrm5
            have hc5 := Hc1.out w5 hb5
            clear hown5 hg5 hol d0 d1 d2' d3 HW hG hc1
            go_wp2_with (fail)
            refine HW5.out.mono ?_
            rintro e w6 ⟨A6, c6, rfl, ho6, hb6⟩
            go_wp2_with (fail)
            go_roundg gj
            case rel =>
              refine ⟨t0, lst ++ [(xk, xa, xb, xt)], A6, c6, by show _ ≤ _; omega, hl0', by go_num, rfl, own_cap ho6, (own_rd ho6).1, hPm2, by have h := HLl.out; show _ = _; simp; omega, own_call hown6.out hb6, fun a ha k hk => ?_, fun _ => own_base ho6 hb5.size, bl_call hb5 hb6⟩
              have h1 := (own_rd ho6).2 a ha
              have h2 := (hown6.out.lt k hk).2
              omega
            case measure => omega
  · have HB : lysL n l = [] := by rw [lysL, if_neg hv]
    rw [HB]
    clear HB
    generalize validE n l = ev at hv HV
    go_enter Try.func34, Try.ntmps34
    go_wp2_with (fail)
    refine HV.out.mono ?_
    rintro e w1 ⟨rfl, hb1⟩
    go_wp2_with (fail)
    go_ret2
    exact ⟨none, 0, [], rfl, World.ownsRow_nil _ _ _ _, TabG.nil _ _, hb1⟩
end Go.Proofs.Yteoajadcdjaalaa
