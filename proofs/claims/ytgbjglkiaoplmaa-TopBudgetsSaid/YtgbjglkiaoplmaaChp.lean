/- The cheapest choice: package budget's cheapest, Cheapest and Choice. -/
import Derived.Test.YtgbjglkiaoplmaaMinO
namespace Go.Proofs.Ytgbjglkiaoplmaa
open Go.RowKit

theorem opt_ok {l : List It} {fs : List Fx} {o : Op} (hv : vfE l fs = 0) (h : o ∈ optL l fs) : Cnt o.p ∧ o.c.length ≤ 8 := by
  obtain ⟨k, hk, _, rfl⟩ := (optTo_mem (Nat.le_refl _)).1 h
  have hbet := (with_bet hv (chos_asc_ok hk) (chosTo k 8).length (Nat.le_refl _)).1
  have hb := parts_bound (hbet.val (vfE_ok hv).1)
  refine ⟨⟨hb.1, ?_⟩, chos_len k 8⟩
  have : partsL (withTo l fs (chosTo k 8) (chosTo k 8).length).1 ≤ 50000000 := by have := hb.2; omega
  exact this
theorem opt_len {l : List It} {fs : List Fx} (hv : vfE l fs = 0) : (optL l fs).length ≤ 256 := by
  have h2 := (vfE_ok hv).2.1
  have hp : 2 ^ fs.length ≤ 256 := Nat.le_trans (Nat.pow_le_pow_right (by decide) h2) (by decide)
  exact Nat.le_trans (optTo_len l fs _) hp
theorem vo_mem {L : List VO} {k : Nat} (hk : k < L.length) : L.getD k vo0 ∈ L := by
  have : L.getD k vo0 = L[k] := by simp [hk]
  rw [this]; exact List.getElem_mem hk
theorem vo_at {L : List VO} {a : VO} (h : a ∈ L) : ∃ j, j < L.length ∧ L.getD j vo0 = a := by
  obtain ⟨j, hj, rfl⟩ := List.getElem_of_mem h
  exact ⟨j, hj, by simp [hj]⟩
theorem OT.keep {w : World} {base : Nat} {L : List VO} (h : OT w base L) (m e : Int) : OT w base (keepO m e L) := fun k hk => by
  obtain ⟨j, hj, hq⟩ := vo_at ((List.mem_filter.1 (vo_mem hk)).1)
  have hq2 : L.getD j vo0 = (keepO m e L).getD k vo0 := hq
  rw [← hq2]
  exact h j hj
theorem opts_of {w : World} {base : Nat} {L : List VO} {l : List It} {fs : List Fx} (hv : vfE l fs = 0) (h : OT w base L) (hm : ∀ a ∈ L, a.2 ∈ optL l fs) : Opts L := fun k hk => by
  obtain ⟨A, c, h1, _⟩ := h k hk
  exact ⟨(opt_ok hv (hm _ (vo_mem hk))).1, A, _, c, h1⟩
/-- The choice that is found, its cost, and whether there is one. -/
def chpC (l : List It) (fs : List Fx) (m e : Int) : List Int := match cheapO l fs m e with | some o => o.c | none => []
def chpK (l : List It) (fs : List Fx) (m e : Int) : Int := match cheapO l fs m e with | some o => o.k | none => 0
def chpB (l : List It) (fs : List Fx) (m e : Int) : Bool := (cheapO l fs m e).isSome
theorem chp_some {l : List It} {fs : List Fx} {m e : Int} {o : Op} (h : cheapO l fs m e = some o) : chpC l fs m e = o.c ∧ chpK l fs m e = o.k ∧ chpB l fs m e = true := by
  unfold chpC chpK chpB; rw [h]; exact ⟨rfl, rfl, rfl⟩
theorem chp_none {l : List It} {fs : List Fx} {m e : Int} (h : cheapO l fs m e = none) : chpC l fs m e = [] ∧ chpK l fs m e = 0 ∧ chpB l fs m e = false := by
  unfold chpC chpK chpB; rw [h]; exact ⟨rfl, rfl, rfl⟩
/-- The option that is found, and whether there is one. -/
def OutC (C : List Int) (k : Int) (z : Bool) (w : World) (e : Ending) (w' : World) : Prop :=
  ∃ A c u v, e = .returned (.tuple #[.agg #[.slice A C.length c, .int .i64 k, .int .i64 u, .int .i64 v], .bool z]) ∧ Rd w' A (ints C) ∧ Below w.heap.size w w'
set_option maxRecDepth 100000 in
set_option maxHeartbeats 4000000 in
theorem cheapest_c (A : Option Addr) (l : List It) (cap : Nat) (B : Option Addr) (fs : List Fx) (cap2 : Nat) (m e : Int) (w : World) (hv : vfE l fs = 0) (hL : limB m e = true) (hr : Rd w A (cellsI l)) (hf : Rd w B (cellsF fs)) :
    Calls Try.prog 83 #[.slice A l.length cap, .slice B fs.length cap2, .agg #[.int .i64 m, .int .i64 e]] w (OutC (chpC l fs m e) (chpK l fs m e) (chpB l fs m e) w) := by
  have HN := Lib.hid (fun (h : cheapO l fs m e = none) => chp_none h)
  have HS := Lib.hid (fun (o : Op) (h : cheapO l fs m e = some o) => chp_some h)
  have HF : Hid (cheapO l fs m e = leastF keyO ((optL l fs).filter (closeO m e))) := rfl
  have hb0 := bl_alloc (Below.refl w.heap.size w) (.cells #[.int .i64 m, .int .i64 e] 30)
  have x0 : Bx (w.alloc (.cells #[.int .i64 m, .int .i64 e] 30)) w.heap.size 30 #[.int .i64 m, .int .i64 e] := Bx.new w _ _
  have hb1 := bl_alloc hb0 (.cells #[.slice none 0 0, .int .i64 0, .int .i64 0, .int .i64 0] 95)
  have x1 : Bx ((w.alloc (.cells #[.int .i64 m, .int .i64 e] 30)).alloc (.cells #[.slice none 0 0, .int .i64 0, .int .i64 0, .int .i64 0] 95)) (w.heap.size + 1) 95 #[.slice none 0 0, .int .i64 0, .int .i64 0, .int .i64 0] := Bx.newAt (by simp)
  replace x0 := x0.alloc (.cells #[.slice none 0 0, .int .i64 0, .int .i64 0, .int .i64 0] 95)
  have HO := fun w (hr : Rd w A (cellsI l)) (hf : Rd w B (cellsF fs)) => Lib.hid (options_c A l cap B fs cap2 w hv hr hf)
  have HD := Lib.hid (fun (g : Nat) base A (L : List VO) c (w : World) hlen ho hB hx hbase hown => deleteO_c base A L c g m e w hL hlen ho hB hx hbase hown)
  have hol := opt_len hv
  have HOM := Lib.hid (fun (L : List VO) (h : L.map (·.2) = optL l fs) (w : World) (base : Nat) (ht : OT w base L) => opts_of hv ht (fun a ha => by rw [← h]; exact List.mem_map_of_mem ha))
  have HOK := Lib.hid (fun (o : Op) (h : o ∈ optL l fs) => opt_ok hv h)
  have HKM := Lib.hid (keepO_map m e)
  have HKL := Lib.hid (keepO_len m e)
  generalize chpC l fs m e = C at *
  generalize chpK l fs m e = K at *
  generalize chpB l fs m e = Z at *
  generalize cheapO l fs m e = CO at *
  go_enter Try.func83, Try.ntmps83
  go_wp2_with (fail)
  refine (HO _ (hr.later hb1) (hf.later hb1)).out.mono ?_
  rintro f w2 ⟨A2, c2, L, rfl, hLm, hown, htab, hb2⟩
  have hb02 := bl_call hb1 hb2
  have x02 := x0.call hb2
  have x12 := x1.call hb2
  have hLl : L.length ≤ 256 := by have := congrArg List.length hLm; simp at this; omega
  have hopts := HOM.out L hLm w2 _ htab.ot
  have HDL := Lib.hid (HD.out w.heap.size _ A2 L c2 w2 (by omega) hopts (by simp; omega) x02 hb2.size hown)
  go_wp2_with (fail)
  refine HDL.out.mono ?_
  rintro f w3 ⟨A3, c3, rfl, hown3, ht3, hb3⟩
  have hb13 : Below (w.heap.size + 2) w2 w3 := by simpa using hb3
  have hb03 : Below w.heap.size w w3 := hb02.trans (hb13.mono (by omega))
  have x13 : Bx w3 (w.heap.size + 1) 95 #[.slice none 0 0, .int .i64 0, .int .i64 0, .int .i64 0] := (hb13.block _ (by omega)).trans x12
  have hot3 : OT w3 _ (keepO m e L) := (ht3 _ _ htab).ot.keep m e
  have hkm := HKM.out L
  have hkl := HKL.out L
  rw [hLm, ] at hkm
  have hc8 : ∀ k, k < (keepO m e L).length → ((keepO m e L).getD k vo0).2.c.length ≤ 8 := fun k hk => by
    refine (HOK.out _ ?_).2
    rw [← hLm]
    exact List.mem_map_of_mem ((List.mem_filter.1 (vo_mem hk)).1)
  replace HF : Hid (CO = leastF keyO ((keepO m e L).map (·.2))) := by rw [hkm]; exact HF
  have hrd := (own_rd hown3).1
  clear hb0 hb1 x0 x1 HO HD HOM HOK HKM HKL hLm hown htab hb2 hb02 x02 x12 hopts HDL hb3 hb13 ht3 hkm hown3
  generalize keepO m e L = M at *
  replace hc8 := Lib.hid hc8
  replace hot3 := Lib.hid hot3
  by_cases hM : M.length = 0
  · have hnil : M = [] := List.length_eq_zero_iff.1 hM
    have hco : CO = none := by rw [HF.out, hnil]; rfl
    obtain ⟨rfl, rfl, rfl⟩ := HN.out hco
    rw [hM]
    clear HF HS HN hco
    obtain ⟨z0, z1, z2, z3⟩ := x13.free4
    obtain ⟨t0, t1, t2, t3⟩ := x13.four
    have HX := Lib.hid (x13.set4 (.slice none 0 0) (.int .i64 0) (.int .i64 0) (.int .i64 0))
    go_wp2_with (fail)
    refine bodyPost_ret (results_cell_tmp rfl _ _ (w.heap.size + 1) 95 _ (0, 0) _ _ rfl rfl HX.out Try.underlying95 rfl (by kernel_rfl)) rfl ?_
    exact ⟨none, 0, 0, 0, rfl, .inl rfl, bl_set4 hb03 (g := w.heap.size + 1) (by omega) _ _ _ _⟩
  · have hpos : 0 < M.length := by omega
    have hco : CO = some (M.getD (minI M (M.length - 1)) vo0).2 := by rw [HF.out]; exact minI_least hpos
    obtain ⟨h1, h2, h3⟩ := HS.out _ hco
    have hmi : minI M (M.length - 1) < M.length := by have := minI_le M (M.length - 1); omega
    obtain ⟨A5, c5, hv5, hr5⟩ := hot3.out _ hmi
    have hE : Hid (boxO (M.getD (minI M (M.length - 1)) vo0) = #[.slice A5 C.length c5, .int .i64 K, .int .i64 (rat (M.getD (minI M (M.length - 1)) vo0).2.p).1, .int .i64 (rat (M.getD (minI M (M.length - 1)) vo0).2.p).2]) := by
      show _ = _; rw [h1, h2, ← hv5]; rfl
    have hr5' : w3.ownsRow (w.heap.size + 2) 3 1 (.slice A5 C.length c5) C.length (ints C) := by rw [h1]; simpa using hr5
    subst h3
    have HM0 := minO_c A3 M c3 w3 hpos (by omega) hc8.out _ hot3.out hrd
    unfold OutM at HM0
    rw [hE.out] at HM0
    have HM := Lib.hid HM0
    clear HM0
    generalize (rat (M.getD (minI M (M.length - 1)) vo0).2.p).1 = u at *
    generalize (rat (M.getD (minI M (M.length - 1)) vo0).2.p).2 = v at *
    have hlI : ¬ ((M.length : Int) = 0) := by omega
    clear HF HS HN hco h1 h2 hv5 hr5 hE hmi
    go_wp2_with (fail)
    refine HM.out.mono ?_
    rintro f w4 ⟨rfl, hb4⟩
    have hb04 := bl_call hb03 hb4
    have x14 := x13.call hb4
    obtain ⟨z0, z1, z2, z3⟩ := x14.free4
    obtain ⟨t0, t1, t2, t3⟩ := x14.four
    have HX := Lib.hid (x14.set4 (.slice A5 C.length c5) (.int .i64 K) (.int .i64 u) (.int .i64 v))
    have hr6 := own_call hr5' hb4
    go_wp2_with (fail)
    refine bodyPost_ret (results_cell_tmp rfl _ _ (w.heap.size + 1) 95 _ (0, 0) _ _ rfl rfl HX.out Try.underlying95 rfl (by kernel_rfl)) rfl ?_
    refine ⟨A5, c5, u, v, rfl, ?_, bl_set4 hb04 (g := w.heap.size + 1) (by omega) _ _ _ _⟩
    exact rd_set4 hr6 (by omega) _ _ _ _
end Go.Proofs.Ytgbjglkiaoplmaa
