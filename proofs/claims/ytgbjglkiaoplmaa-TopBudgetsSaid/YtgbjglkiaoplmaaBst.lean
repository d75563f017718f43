/- The best total for a cost: slices.MinFunc at fractions, package budget's Best. -/
import Derived.Test.YtgbjglkiaoplmaaChp
import Derived.Test.YtgbjglkiaoplmaaRos
import Derived.Test.YtgbjglkiaoplmaaTtl
namespace Go.Proofs.Ytgbjglkiaoplmaa
open Go.RowKit

def cellsQ (F : List Int) : List Value := cellsR (F.map rat)
@[simp] theorem cellsQ_length (F : List Int) : (cellsQ F).length = F.length * 2 := by simp [cellsQ]
theorem cellsQ_snoc (F : List Int) (p : Int) : cellsQ (F ++ [p]) = cellsQ F ++ [.int .i64 (rat p).1, .int .i64 (rat p).2] := by simp [cellsQ, cellsR]
theorem Rd.fq {w : World} {A : Option Addr} {F : List Int} (h : Rd w A (cellsQ F)) {k : Nat} (hk : k < F.length) : ∃ b o, A = some ⟨b, o, none⟩ ∧ b < w.heap.size ∧
    w.cell? ⟨b, o + k * 2, none⟩ = some (.int .i64 (rat (F.getD k 0)).1) ∧ w.cell? ⟨b, o + k * 2 + 1, none⟩ = some (.int .i64 (rat (F.getD k 0)).2) := by
  obtain ⟨b, o, hA, hb, h0, h1⟩ := Rd.rt (l := F.map rat) h (k := k) (by simpa using hk)
  have e : (F.map rat).getD k (0, 0) = rat (F.getD k 0) := by simp [hk]
  rw [e] at h0 h1
  exact ⟨b, o, hA, hb, h0, h1⟩
theorem frac_info : (Try.prog.info? 78).map (fun i => (i.zero, i.size, i.bytes)) = some (some (.agg #[.int .i64 0, .int .i64 0]), 2, 16) := by kernel_rfl
theorem own_other {w w2 : World} {base e size n b' e' s' n' : Nat} {v v' : Value} {xs xs' : List Value} (h : w.ownsRow base e size v n xs) (ho : w.ownsRow b' e' s' v' n' xs') (hne : e ≠ e') (hg : w.grownBy w2 v'.ownBlock) : w2.ownsRow base e size v n xs := by
  refine h.kept hg ?_
  cases hA : v.ownBlock with
  | none => exact .inl rfl
  | some j => exact .inr (fun e => own_ne h ho hne j hA e.symm)
theorem append_frac (base : Nat) (w : World) (v : Value) (F : List Int) (p : Int) (hown : w.ownsRow base 78 2 v F.length (cellsQ F)) (hlen : F.length ≤ 100000) (hb : base ≤ w.heap.size) :
    ∃ A' c' w', (∀ ty, (Builtin.append_ #[100, 100] ty #[v, .slice (some ⟨w.heap.size, 0, none⟩) 1 1]).run Try.prog (w.alloc (.cells #[.int .i64 (rat p).1, .int .i64 (rat p).2] 78)) = .ok (.slice A' (F.length + 1) c') w') ∧
      w'.ownsRow base 78 2 (.slice A' (F.length + 1) c') (F.length + 1) (cellsQ (F ++ [p])) ∧ Below base w w' ∧
      ∀ (b' e' s' n' : Nat) (v' : Value) (xs' : List Value), w.ownsRow b' e' s' v' n' xs' → e' ≠ 78 → w'.ownsRow b' e' s' v' n' xs' := by
  obtain ⟨i0, hi, hz0, hz1, hz2⟩ := info_parts frac_info
  have hrd : Rd (w.alloc (.cells #[.int .i64 (rat p).1, .int .i64 (rat p).2] 78)) (some ⟨w.heap.size, 0, none⟩) [.int .i64 (rat p).1, .int .i64 (rat p).2] := Bx.rd (Bx.new w _ _)
  have hs : base ≤ (w.alloc (.cells #[.int .i64 (rat p).1, .int .i64 (rat p).2] 78)).heap.size := by rw [World.size_alloc]; omega
  obtain ⟨A', c', w2, h1, h2, h3⟩ := run_append_rows (P := Try.prog) _ base 100 78 i0 _ 2 16 Try.underlying100 hi hz0 hz1 hz2 rfl (by decide) v F.length (cellsQ F) (hown.alloc _) (some ⟨w.heap.size, 0, none⟩) 1 1 _ rfl (by simp [Value.oneCell']) hrd (by unfold maxLen; omega) (by omega) hs
  refine ⟨A', c', w2, h1, ?_, ((Below.refl base w).alloc hb _).trans (grown_below (hown.alloc _) h3 hs), fun b' e' s' n' v' xs' h' hne => own_other (h'.alloc _) (hown.alloc _) hne h3⟩
  rw [cellsQ_snoc]
  exact h2
def mnR (F : List Int) : Nat → Int
  | 0 => F.getD 0 0
  | k + 1 => if F.getD (k + 1) 0 < mnR F k then F.getD (k + 1) 0 else mnR F k
theorem mnR_fold {a : Int} {t : List Int} : ∀ k, k ≤ t.length → mnR (a :: t) k = (t.take k).foldl (fun m x => if x < m then x else m) a
  | 0, _ => rfl
  | k + 1, hk => by
    have ih := mnR_fold (a := a) (t := t) k (by omega)
    have e : (a :: t).getD (k + 1) 0 = t[k] := by simp [show k < t.length by omega]
    rw [mnR, ih, e, List.take_succ_eq_append_getElem (by omega), List.foldl_append]
    rfl
theorem mnR_min {F : List Int} (h : 0 < F.length) : mnR F (F.length - 1) = minP F := by
  cases F with
  | nil => simp at h
  | cons a t =>
    rw [show (a :: t).length - 1 = t.length by simp, mnR_fold _ (Nat.le_refl _), List.take_length]
    rfl
theorem mnR_in {F : List Int} (h : ∀ k, k < F.length → Cnt (F.getD k 0)) : ∀ k, k < F.length → Cnt (mnR F k)
  | 0, hk => h 0 hk
  | k + 1, hk => by
    rw [mnR]; split
    · exact h _ hk
    · exact mnR_in h k (by omega)
/-- The least fraction. -/
def OutQ (F : List Int) (w : World) (e : Ending) (w' : World) : Prop := e = .returned (.agg #[.int .i64 (rat (minP F)).1, .int .i64 (rat (minP F)).2]) ∧ Below w.heap.size w w'
set_option maxRecDepth 100000 in
set_option maxHeartbeats 4000000 in
theorem minQ_c (A : Option Addr) (F : List Int) (cap : Nat) (w : World) (hp : 0 < F.length) (hlen : F.length ≤ 1000) (hcn : ∀ k, k < F.length → Cnt (F.getD k 0)) (hr : Rd w A (cellsQ F)) :
    Calls Try.prog 87 #[.slice A F.length cap, .func (.func 88) #[] #[]] w (OutQ F w) := by
  have HFIN : Hid (∀ w', Below w.heap.size w w' → OutQ F w (.returned (.agg #[.int .i64 (rat (mnR F (F.length - 1))).1, .int .i64 (rat (mnR F (F.length - 1))).2])) w') := fun w' h => ⟨by rw [mnR_min hp], h⟩
  generalize OutQ F w = FO at HFIN ⊢
  obtain ⟨b, o, rfl, hbl, d0, d1⟩ := hr.fq hp
  rw [Nat.zero_mul, Nat.add_zero] at d0 d1
  have HM0 : Hid (mnR F 0 = F.getD 0 0) := rfl
  have HMS : Hid (∀ k, mnR F (k + 1) = if F.getD (k + 1) 0 < mnR F k then F.getD (k + 1) 0 else mnR F k) := fun k => rfl
  have HMI := Lib.hid (mnR_in hcn)
  replace hcn := Lib.hid hcn
  replace hr := Lib.hid hr
  have hpp : (0 : Int) < (F.length : Int) := by omega
  have hnl : ¬ (F.length : Int) < 1 := by omega
  have hnl2 : ¬ F.length < 1 := by omega
  rw [← HM0.out] at d0 d1
  generalize hm0 : rat (mnR F 0) = r0 at *
  have HR0 := Lib.hid hm0
  clear hm0
  have hx0 : Bx (w.alloc (.cells #[.int .i64 0, .int .i64 0] 78)) w.heap.size 78 #[.int .i64 0, .int .i64 0] := Bx.new w _ _
  have hb0 := bl_alloc (Below.refl w.heap.size w) (.cells #[.int .i64 0, .int .i64 0] 78)
  have hx5 : Bx ((w.alloc (.cells #[.int .i64 0, .int .i64 0] 78)).alloc (.cells #[.int .i64 r0.1, .int .i64 r0.2] 78)) (w.heap.size + 1) 78 #[.int .i64 r0.1, .int .i64 r0.2] := Bx.newAt (by simp)
  have hx4 := hx0.alloc (.cells #[.int .i64 r0.1, .int .i64 r0.2] 78)
  have hb5 := bl_alloc hb0 (.cells #[.int .i64 r0.1, .int .i64 r0.2] 78)
  go_enter Try.func87, Try.ntmps87
  go_wp2_with (fail)
  clear d0 d1 hx0 hb0
  generalize (w.alloc (.cells #[.int .i64 0, .int .i64 0] 78)).alloc (.cells #[.int .i64 r0.1, .int .i64 r0.2] 78) = w0 at *
  go_loopg [6] (F.length - 1) (fun gk iv wr => ∃ q : Nat, Hid (q + gk = F.length) ∧ 1 ≤ q ∧ iv = .int .i64 (q : Int) ∧ Bx wr w.heap.size 78 #[.int .i64 0, .int .i64 0] ∧ Bx wr (w.heap.size + 1) 78 #[.int .i64 (rat (mnR F (q - 1))).1, .int .i64 (rat (mnR F (q - 1))).2] ∧ Below w.heap.size w wr)
  case atStart => exact ⟨1, by show _ = _; omega, Nat.le_refl _, rfl, hx4, by rw [show 1 - 1 = 0 from rfl, HR0.out]; exact hx5, hb5⟩
  case round =>
    clear hx4 hx5 hb5
    obtain ⟨q, HK, hq1, rfl, hx4, hx5, hb⟩ := hrel
    have hqq : q - 1 + 1 = q := by omega
    have HMK0 := HMS.out (q - 1)
    rw [hqq] at HMK0
    obtain ⟨k, hk0⟩ : ∃ k, k = q - 1 := ⟨_, rfl⟩
    rw [← hk0] at hx5 HMK0
    have HK0 := Lib.hid hk0
    clear hqq hk0
    rcases gk with _ | gi
    · have hk : k = F.length - 1 := by have := HK.out; have := HK0.out; omega
      have hge : ¬ (q : Int) < (F.length : Int) := by have := HK.out; omega
      have hge2 : ¬ q < F.length := by omega
      have HF2 := HFIN.out
      rw [← hk] at HF2
      replace HF2 := Lib.hid HF2
      clear hk HMK0 HFIN
      generalize rat (mnR F k) = r at *
      obtain ⟨y0, y1, z0, z1⟩ := hx4.two
      obtain ⟨a0, a1, _, _⟩ := hx5.two
      have HX := Lib.hid (hx4.set2 (.int .i64 r.1) (.int .i64 r.2))
      have hbs := bl_set (bl_set hb (g := w.heap.size) (i := 0) (Nat.le_refl _) (.int .i64 r.1)) (g := w.heap.size) (i := 1) (Nat.le_refl _) (.int .i64 r.2)
      go_wp2_with (fail)
      refine bodyPost_ret (results_cell_row rfl _ _ w.heap.size 78 _ (0, 0) _ rfl HX.out Try.underlying78 rfl (by kernel_rfl)) rfl ?_
      exact HF2.out _ hbs
    · have hkN : q < F.length := by have := HK.out; omega
      have hlt : (q : Int) < (F.length : Int) := by omega
      have HMK := Lib.hid HMK0
      clear HMK0
      have hdr : Below wr.heap.size wr wr.drew := (Below.refl _ _).drew
      have HCK : Hid (∀ W, Below wr.heap.size wr W → W.cell? ⟨b, o + q * 2, none⟩ = some (.int .i64 (rat (F.getD q 0)).1) ∧ W.cell? ⟨b, o + q * 2 + 1, none⟩ = some (.int .i64 (rat (F.getD q 0)).2)) := fun W hW => by
        obtain ⟨b', o', he, _, h0, h1⟩ := (hr.out.later (bl_call hb hW)).fq hkN
        cases he
        exact ⟨h0, h1⟩
      have hf1 := rat_fr (hcn.out q hkN)
      have hf2 := rat_fr (HMI.out k (by have := HK0.out; omega))
      have p1 := mul_in (a := (rat (F.getD q 0)).1) (b := (rat (mnR F k)).2) (A := 50000000) (B := 2520) ⟨hf1.1.1, hf1.1.2⟩ ⟨by omega, hf2.2.2⟩
      have p2 := mul_in (a := (rat (mnR F k)).1) (b := (rat (F.getD q 0)).2) (A := 50000000) (B := 2520) ⟨hf2.1.1, hf2.1.2⟩ ⟨by omega, hf1.2.2⟩
      have HSM := Lib.hid (compare_c (rat (F.getD q 0)).1 (rat (F.getD q 0)).2 (rat (mnR F k)).1 (rat (mnR F k)).2 wr.drew (by omega) (by omega))
      have hcn2 : cmpI ((rat (F.getD q 0)).1 * (rat (mnR F k)).2) ((rat (mnR F k)).1 * (rat (F.getD q 0)).2) < 0 ↔ F.getD q 0 < mnR F k := by rw [cmpI_neg, rat_lt]
      have Hcn := Lib.hid hcn2
      clear hcn2 hf1 hf2 p1 p2
      generalize cmpI ((rat (F.getD q 0)).1 * (rat (mnR F k)).2) ((rat (mnR F k)).1 * (rat (F.getD q 0)).2) = cc at *
      generalize hFq : F.getD q 0 = fq at *
      generalize hFm : mnR F k = fm at *
      have HFm := Lib.hid hFm
      clear hFq hFm
      have HX5 := Lib.hid (fun W (hW : Below wr.heap.size wr W) => (hx5.call hW).two)
      go_wp2_with (fail)
      obtain ⟨a0, a1, _, _⟩ := HX5.out _ hdr
      obtain ⟨p0, p1⟩ := HCK.out _ hdr
      go_region_law (go_simp; refine HSM.out.mono ?_; rintro e w9 ⟨rfl, hb9'⟩; try go_simp)
      all_goals
        have hb9 : Below wr.heap.size wr w9 := bl_call hdr hb9'
        have hb09 := bl_call hb hb9
        have hx49 := hx4.call hb9
        have hx59 := hx5.call hb9
        obtain ⟨c0', c1'⟩ := HCK.out w9 hb9
        obtain ⟨t0, t1, z0, z1⟩ := hx59.two
        clear p0 p1 a0 a1 HSM
        by_cases hlt2 : fq < fm
        · have hc : cc < 0 := Hcn.out.2 hlt2
          have HMK2 := Lib.hid (HMK.out.trans (if_pos hlt2))
          have HX6 := Lib.hid (hx59.set2 (.int .i64 (rat fq).1) (.int .i64 (rat fq).2))
          have HX4 := Lib.hid ((hx49.far (g' := w.heap.size + 1) (i := 0) (by omega) (.int .i64 (rat fq).1)).far (g' := w.heap.size + 1) (i := 1) (by omega) (.int .i64 (rat fq).2))
          have hbs := bl_set (bl_set hb09 (g := w.heap.size + 1) (i := 0) (by omega) (.int .i64 (rat fq).1)) (g := w.heap.size + 1) (i := 1) (by omega) (.int .i64 (rat fq).2)
          clear hlt2
          go_wp2_with (fail)
          go_roundg gi
          case rel => exact ⟨q + 1, by have := HK.out; show _ = _; omega, by omega, by go_num, HX4.out, by rw [Nat.add_sub_cancel, HMK2.out]; exact HX6.out, hbs⟩
          case measure => omega
        · have hc : ¬ cc < 0 := fun h => hlt2 (Hcn.out.1 h)
          have HMK2 := Lib.hid (HMK.out.trans (if_neg hlt2))
          clear hlt2
          go_wp2_with (fail)
          go_roundg gi
          case rel => exact ⟨q + 1, by have := HK.out; show _ = _; omega, by omega, by go_num, hx49, by rw [Nat.add_sub_cancel, HMK2.out]; exact hx59, hb09⟩
          case measure => omega
/-- Totals of the first options that cost at most so much. -/
def totO (k : Int) (L : List VO) : List Int := totTo k (L.map (·.2))
theorem totO_succ {k : Int} {L : List VO} {j : Nat} (h : j < L.length) : totO k (L.take (j + 1)) = if (L.getD j vo0).2.k ≤ k then totO k (L.take j) ++ [(L.getD j vo0).2.p] else totO k (L.take j) := by
  have h2 : L.getD j vo0 = L[j] := by simp [h]
  rw [h2]
  unfold totO totTo
  rw [List.take_succ_eq_append_getElem h, List.map_append, List.filter_append, List.map_append]
  by_cases hk : L[j].2.k ≤ k
  · rw [if_pos hk]
    simp [hk]
  · rw [if_neg hk]
    simp [hk]
theorem totO_len (k : Int) (L : List VO) (j : Nat) : (totO k (L.take j)).length ≤ L.length := by
  unfold totO totTo
  rw [List.length_map]
  have := List.length_filter_le (fun o : Op => decide (o.k ≤ k)) ((L.take j).map (·.2))
  rw [List.length_map, List.length_take] at this
  omega
def bstE (l : List It) (fs : List Fx) (k : Int) : Int := if vfE l fs = 0 then (if 0 ≤ k ∧ k ≤ 792 then 0 else 1) else vfE l fs
def bstG (l : List It) (fs : List Fx) (k : Int) : Int × Int := if bstE l fs k = 0 then rat (bestL l fs k) else (0, 0)
theorem tot_cnt {l : List It} {fs : List Fx} {k : Int} (hv : vfE l fs = 0) : ∀ j, j < (totTo k (optL l fs)).length → Cnt ((totTo k (optL l fs)).getD j 0) := fun j hj => by
  have e : (totTo k (optL l fs)).getD j 0 = (totTo k (optL l fs))[j] := by simp [hj]
  have hm := List.getElem_mem hj
  rw [e]
  unfold totTo at hm ⊢
  obtain ⟨o, ho, he⟩ := List.mem_map.1 hm
  rw [← he]
  exact (opt_ok hv (List.mem_filter.1 ho).1).1
set_option maxRecDepth 100000 in
set_option maxHeartbeats 4000000 in
theorem Best_c (A : Option Addr) (l : List It) (cap : Nat) (B : Option Addr) (fs : List Fx) (cap2 : Nat) (k : Int) (w : World) (hlen : l.length ≤ 1000) (hlen2 : fs.length ≤ 1000) (hr : Rd w A (cellsI l)) (hf : Rd w B (cellsF fs)) :
    Calls Try.prog 47 #[.slice A l.length cap, .slice B fs.length cap2, .int .i64 k] w fun e w' => e = .returned (.tuple #[.agg #[.int .i64 (bstG l fs k).1, .int .i64 (bstG l fs k).2], .int .i64 (bstE l fs k)]) ∧ Below w.heap.size w w' := by
  have hb0 : Below w.heap.size w (w.alloc (.cells #[.int .i64 0, .int .i64 0] 30)) := bl_alloc (Below.refl _ _) _
  have x0 : Bx (w.alloc (.cells #[.int .i64 0, .int .i64 0] 30)) w.heap.size 30 #[.int .i64 0, .int .i64 0] := Bx.newAt rfl
  have HV := Lib.hid (ValidateFixes_c A l cap B fs cap2 _ hlen hlen2 (hr.later hb0) (hf.later hb0))
  by_cases hv : vfE l fs = 0
  rotate_left
  · have hE : bstE l fs k = vfE l fs := by unfold bstE; rw [if_neg hv]
    have hG : bstG l fs k = (0, 0) := by unfold bstG; rw [hE, if_neg hv]
    have hv' : (vfE l fs == 0) = false := by rw [beq_eq_false_iff_ne]; exact hv
    rw [hE, hG]
    clear hE hG
    generalize vfE l fs = z at *
    go_enter Try.func47, Try.ntmps47
    go_wp2_with (fail)
    refine HV.out.mono ?_
    rintro e w1 ⟨rfl, hb1⟩
    have x1 := x0.call hb1
    have hb01 := bl_call hb0 hb1
    obtain ⟨z0, z1, z2, z3⟩ := x1.two
    go_wp2_with (fail)
    refine bodyPost_ret (results_cell_tmp rfl _ _ w.heap.size 30 _ (0, 0) _ _ rfl rfl (x1.set2 _ _) Try.underlying30 rfl (by kernel_rfl)) rfl ?_
    exact ⟨rfl, bl_set (bl_set hb01 (Nat.le_refl _) _) (Nat.le_refl _) _⟩
  · by_cases hk : 0 ≤ k ∧ k ≤ 792
    rotate_left
    · have hE : bstE l fs k = 1 := by unfold bstE; rw [if_pos hv, if_neg hk]
      have hG : bstG l fs k = (0, 0) := by unfold bstG; rw [hE]; rfl
      rw [hv] at HV
      rw [hE, hG]
      clear hE hG hv
      by_cases h0 : k < 0
      · go_enter Try.func47, Try.ntmps47
        go_wp2_with (fail)
        refine HV.out.mono ?_
        rintro e w1 ⟨rfl, hb1⟩
        have x1 := x0.call hb1
        have hb01 := bl_call hb0 hb1
        obtain ⟨z0, z1, z2, z3⟩ := x1.two
        go_wp2_with (fail)
        refine bodyPost_ret (results_cell_tmp rfl _ _ w.heap.size 30 _ (0, 0) _ _ rfl rfl (x1.set2 _ _) Try.underlying30 rfl (by kernel_rfl)) rfl ?_
        exact ⟨rfl, bl_set (bl_set hb01 (Nat.le_refl _) _) (Nat.le_refl _) _⟩
      · have h1 : 792 < k := by omega
        go_enter Try.func47, Try.ntmps47
        go_wp2_with (fail)
        refine HV.out.mono ?_
        rintro e w1 ⟨rfl, hb1⟩
        have x1 := x0.call hb1
        have hb01 := bl_call hb0 hb1
        obtain ⟨z0, z1, z2, z3⟩ := x1.two
        go_wp2_with (fail)
        refine bodyPost_ret (results_cell_tmp rfl _ _ w.heap.size 30 _ (0, 0) _ _ rfl rfl (x1.set2 _ _) Try.underlying30 rfl (by kernel_rfl)) rfl ?_
        exact ⟨rfl, bl_set (bl_set hb01 (Nat.le_refl _) _) (Nat.le_refl _) _⟩
    · have hE : bstE l fs k = 0 := by unfold bstE; rw [if_pos hv, if_pos hk]
      have hG : bstG l fs k = rat (bestL l fs k) := by unfold bstG; rw [if_pos hE]
      obtain ⟨hne, hbe⟩ := best_o (l := l) (fs := fs) (vfE_ok hv).2.1 hk.1
      have HO := fun w (hr : Rd w A (cellsI l)) (hf : Rd w B (cellsF fs)) => Lib.hid (options_c A l cap B fs cap2 w hv hr hf)
      have hol := opt_len hv
      have HQ := Lib.hid (fun A c w (hlen : (totTo k (optL l fs)).length ≤ 1000) hr => minQ_c A (totTo k (optL l fs)) c w (List.length_pos_iff.2 hne) hlen (tot_cnt hv) hr)
      unfold OutQ at HQ
      rw [hbe] at HQ
      rw [hv] at HV
      rw [hE, hG]
      obtain ⟨T, hT⟩ : ∃ T, T = totTo k (optL l fs) := ⟨_, rfl⟩
      rw [← hT] at HQ
      have HT := Lib.hid hT
      clear hE hG hv hne hbe hT
      have h0 : ¬ k < 0 := by omega
      have h1 : ¬ 792 < k := by omega
      clear hk
      generalize rat (bestL l fs k) = rr at *
      go_enter Try.func47, Try.ntmps47
      go_wp2_with (fail)
      refine HV.out.mono ?_
      rintro e w1 ⟨rfl, hb1⟩
      have x1 := x0.call hb1
      have hb01 := bl_call hb0 hb1
      have hb1x := Lib.hid hb1
      clear HV x0 hb0 hb1
      go_wp2_with (fail)
      refine (HO _ (hr.later hb01) (hf.later hb01)).out.mono ?_
      rintro e w2 ⟨A2, c2, L, rfl, hLm, hown, htab, hb2⟩
      have x2 := x1.call hb2
      have hb02 := bl_call hb01 hb2
      have hLl : L.length ≤ 256 := by have := congrArg List.length hLm; simp at this; omega
      have hro := own_base hown (show w.heap.size + 1 ≤ w1.heap.size by have := hb1x.out.size; rw [World.size_alloc] at this; exact this)
      have hot := htab.ot
      have HTL : Hid (totO k L = T) := by show _ = _; unfold totO; rw [hLm]; exact HT.out.symm
      clear HO hown htab hLm x1 hb01 hb2
      have HSu := Lib.hid (fun j (hj : j < L.length) => @totO_succ k L j hj)
      have HLe := Lib.hid (totO_len k L)
      replace hot := Lib.hid hot
      go_wp2_with (fail)
      go_loopg [9, 30] L.length (fun gk ov iv wr => ∃ (j : Nat) (D : Option Addr) (d : Nat), Hid (j + gk = L.length) ∧ iv = .int .i64 (j : Int) ∧ ov = .slice D (totO k (L.take j)).length d ∧ wr.ownsRow (w.heap.size + 1) 78 2 (.slice D (totO k (L.take j)).length d) (totO k (L.take j)).length (cellsQ (totO k (L.take j))) ∧ Bx wr w.heap.size 30 #[.int .i64 0, .int .i64 0] ∧ wr.ownsRow (w.heap.size + 1) 95 4 (.slice A2 L.length c2) L.length (cellsO L) ∧ Below w.heap.size w wr)
      case atStart => exact ⟨0, none, 0, by simp [Hid], rfl, rfl, World.ownsRow_nil _ _ _ _, x2, hro, hb02⟩
      case round =>
        clear x2 hro hb02
        obtain ⟨j, D, d, HK, rfl, rfl, hown, hx, hro, hb⟩ := hrel
        rcases gk with _ | gi
        · obtain rfl : j = L.length := HK.out
          rw [List.take_length, HTL.out] at hown ⊢
          have hTl : T.length ≤ 1000 := by have := HLe.out L.length; rw [List.take_length, HTL.out] at this; omega
          have HQ2 := Lib.hid (HQ.out D d _ hTl (own_rd hown).1)
          clear HQ
          go_wp2_with (fail)
          refine HQ2.out.mono ?_
          rintro e w4 ⟨rfl, hb4⟩
          have hx4 := hx.call hb4
          have hb04 := bl_call hb hb4
          obtain ⟨z0, z1, z2, z3⟩ := hx4.two
          go_wp2_with (fail)
          refine bodyPost_ret (results_cell_tmp rfl _ _ w.heap.size 30 _ (0, 0) _ _ rfl rfl (hx4.set2 _ _) Try.underlying30 rfl (by kernel_rfl)) rfl ?_
          exact ⟨rfl, bl_set (bl_set hb04 (Nat.le_refl _) _) (Nat.le_refl _) _⟩
        · have hjl : j < L.length := by have := HK.out; omega
          have hjl' : (j : Int) < (L.length : Int) := by omega
          obtain ⟨b, o, hA, hbl, c0, c1, c2', c3⟩ := (own_rd hro).1.opt hjl
          subst hA
          have hLj := HLe.out j
          have HSj := Lib.hid (HSu.out j hjl)
          obtain ⟨A5, c5, hv5, _⟩ := hot.out j hjl
          rw [hv5] at c0
          clear hv5
          generalize (L.getD j vo0).2.c.length = cn at *
          generalize (L.getD j vo0).2.k = ok at *
          generalize (L.getD j vo0).2.p = op at *
          generalize totO k (L.take j) = T0 at *
          have hbx := bl_alloc (Below.refl wr.heap.size wr) (.cells #[.slice A5 cn c5, .int .i64 ok, .int .i64 (rat op).1, .int .i64 (rat op).2] 95)
          obtain ⟨y0, y1, y2, y3⟩ := (Bx.new wr 95 #[.slice A5 cn c5, .int .i64 ok, .int .i64 (rat op).1, .int .i64 (rat op).2]).four
          have hown1 := own_call hown hbx
          have hx1 := hx.call hbx
          have hro1 := own_call hro hbx
          have hbb := bl_call hb hbx
          clear hown hx hb hro
          by_cases hk : ok ≤ k
          · have hSj : Hid (totO k (L.take (j + 1)) = T0 ++ [op]) := HSj.out.trans (if_pos hk)
            have hwz : w.heap.size + 1 ≤ (wr.alloc (.cells #[.slice A5 cn c5, .int .i64 ok, .int .i64 (rat op).1, .int .i64 (rat op).2] 95)).heap.size := by rw [World.size_alloc]; have := hbb.size; rw [World.size_alloc] at this; have := hx1.lt; rw [World.size_alloc] at this; omega
            obtain ⟨A3, c6, W3, hrun, hown3, hb3, hkeep⟩ := append_frac (w.heap.size + 1) _ (.slice D T0.length d) T0 op hown1 (by omega) hwz
            have hro3 := hkeep _ _ _ _ _ _ hro1 (by decide)
            have hx3 : Bx W3 w.heap.size 30 #[.int .i64 0, .int .i64 0] := (hb3.block _ (by omega)).trans hx1
            have hbb3 := hbb.trans (hb3.mono (by omega))
            simp only [World.size_alloc] at hrun
            have E1 := Lib.hid hrun
            clear hrun hkeep hown1 hro1 hx1 hb3
            go_wp2_with (at_builtin; refine wpList_append_eq rfl _ _ 100 rfl _ _ _ W3 rfl rfl E1.out ?_)
            go_roundg gi
            case rel =>
              refine ⟨j + 1, A3, c6, by have := HK.out; show _ = _; omega, by go_num, ?_, ?_, hx3, hro3, hbb3⟩
              · rw [hSj.out]; simp
              · rw [hSj.out]; simpa using hown3
            case measure => omega
          · have hSj : Hid (totO k (L.take (j + 1)) = T0) := HSj.out.trans (if_neg hk)
            go_wp2_with (fail)
            go_roundg gi
            case rel => exact ⟨j + 1, D, d, by have := HK.out; show _ = _; omega, by go_num, by rw [hSj.out], by rw [hSj.out]; exact hown1, hx1, hro1, hbb⟩
            case measure => omega
end Go.Proofs.Ytgbjglkiaoplmaa
