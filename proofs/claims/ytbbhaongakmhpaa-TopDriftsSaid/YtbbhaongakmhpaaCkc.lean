/- Whether two readings clash: CheckClash, package drift's and the specification's. -/
import Derived.Test.YtbbhaongakmhpaaRver
namespace Go.Proofs.Ytbbhaongakmhpaa
open Go.RowKit

def chcE (l : List T3) (r i j : Int) : Int :=
  if validE l = 0 then (if oneB i l.length = true ∧ oneB j l.length = true then (if inB r 0 9 = true then (if cl l r i.toNat j.toNat = true then 0 else 7) else 1) else 4) else validE l
theorem chc_cases (l : List T3) (r i j : Int) : (validE l ≠ 0 ∧ chcE l r i j = validE l) ∨ (validE l = 0 ∧ oneB i l.length = false ∧ chcE l r i j = 4) ∨ (validE l = 0 ∧ oneB i l.length = true ∧ oneB j l.length = false ∧ chcE l r i j = 4) ∨
    (validE l = 0 ∧ oneB i l.length = true ∧ oneB j l.length = true ∧ inB r 0 9 = false ∧ chcE l r i j = 1) ∨ (validE l = 0 ∧ oneB i l.length = true ∧ oneB j l.length = true ∧ inB r 0 9 = true ∧ chcE l r i j = if cl l r i.toNat j.toNat = true then 0 else 7) := by
  unfold chcE
  by_cases hv : validE l = 0
  · rw [if_pos hv]
    rcases h1 : oneB i l.length with _ | _
    · exact .inr (.inl ⟨hv, rfl, if_neg (by simp)⟩)
    · rcases h2 : oneB j l.length with _ | _
      · exact .inr (.inr (.inl ⟨hv, rfl, rfl, if_neg (by simp)⟩))
      · rw [if_pos ⟨rfl, rfl⟩]
        rcases h3 : inB r 0 9 with _ | _
        · exact .inr (.inr (.inr (.inl ⟨hv, rfl, rfl, rfl, if_neg (by simp)⟩)))
        · exact .inr (.inr (.inr (.inr ⟨hv, rfl, rfl, rfl, if_pos rfl⟩)))
  · rw [if_neg hv]; exact .inl ⟨hv, rfl⟩
theorem inB_one (x : Int) (n : Nat) : inB x 0 ((n : Int) - 1) = oneB x n := by
  unfold inB oneB
  by_cases h : x < n
  · rw [decide_eq_true h, decide_eq_true (show x ≤ (n : Int) - 1 by omega)]
  · rw [decide_eq_false h, decide_eq_false (show ¬ x ≤ (n : Int) - 1 by omega)]
theorem natx_eq {i k : Nat} (h : i = k) : (((i : Nat) : Int) == (k : Int)) = true := by subst h; simp
theorem natx_eq' {i k : Nat} (h : ¬ i = k) : (((i : Nat) : Int) == (k : Int)) = false := by rw [beq_eq_false_iff_ne]; omega
set_option maxRecDepth 100000 in
set_option maxHeartbeats 4000000 in
theorem CheckClash_c (A : Option Addr) (l : List T3) (cap : Nat) (r i j : Int) (w : World) (hlen : l.length ≤ 1000) (hr : Rd w A (cellsT l)) :
    Calls Try.prog 25 #[.slice A l.length cap, .int .i64 r, .int .i64 i, .int .i64 j] w fun e w' => e = .returned (.int .i64 (chcE l r i j)) ∧ Below w.heap.size w w' := by
  have HV := Lib.hid (validate_c A l cap w hlen hr)
  rcases chc_cases l r i j with ⟨hv, hE⟩ | ⟨hv, h1, hE⟩ | ⟨hv, h1, h2, hE⟩ | ⟨hv, h1, h2, h3, hE⟩ | ⟨hv, h1, h2, h3, hE⟩
  · have hv' : (validE l != 0) = true := by simpa using hv
    rw [hE]
    generalize validE l = v at *
    clear hE
    go_enter Try.func25, Try.ntmps25
    go_wp2_with (go_at_call 23; refine HV.out.mono ?_; rintro e w1 ⟨rfl, hb1⟩)
    go_ret
    exact ⟨rfl, hb1⟩
  · rw [hE]
    rw [hv] at HV
    clear hv hE
    go_enter Try.func25, Try.ntmps25
    go_wp2_with (first | (go_at_call 23; refine HV.out.mono ?_; rintro e w1 ⟨rfl, hb1⟩) | (go_at_call 63; refine (isOneOf_c _ _ _).mono ?_; rintro e w2 ⟨rfl, rfl⟩) | (go_at_call 64; refine (isRate_c _ _).mono ?_; rintro e w2 ⟨rfl, rfl⟩))
    go_ret
    exact ⟨rfl, hb1⟩
  · rw [hE]
    rw [hv] at HV
    clear hv hE
    go_enter Try.func25, Try.ntmps25
    go_wp2_with (first | (go_at_call 23; refine HV.out.mono ?_; rintro e w1 ⟨rfl, hb1⟩) | (go_at_call 63; refine (isOneOf_c _ _ _).mono ?_; rintro e w2 ⟨rfl, rfl⟩) | (go_at_call 64; refine (isRate_c _ _).mono ?_; rintro e w2 ⟨rfl, rfl⟩))
    go_ret
    exact ⟨rfl, hb1⟩
  · rw [hE]
    rw [hv] at HV
    clear hv hE
    go_enter Try.func25, Try.ntmps25
    go_wp2_with (first | (go_at_call 23; refine HV.out.mono ?_; rintro e w1 ⟨rfl, hb1⟩) | (go_at_call 63; refine (isOneOf_c _ _ _).mono ?_; rintro e w2 ⟨rfl, rfl⟩) | (go_at_call 64; refine (isRate_c _ _).mono ?_; rintro e w2 ⟨rfl, rfl⟩))
    go_ret
    exact ⟨rfl, hb1⟩
  · rw [hE]
    rw [hv] at HV
    have ho := validE_ok.1 hv
    obtain ⟨r0, r9⟩ := inB_z.1 h3
    obtain ⟨i0, i1⟩ := oneB_z.1 h1
    obtain ⟨j0, j1⟩ := oneB_z.1 h2
    obtain ⟨i, rfl⟩ : ∃ n : Nat, i = (n : Int) := ⟨i.toNat, (Int.toNat_of_nonneg i0).symm⟩
    obtain ⟨j, rfl⟩ : ∃ n : Nat, j = (n : Int) := ⟨j.toNat, (Int.toNat_of_nonneg j0).symm⟩
    rw [Int.toNat_natCast, Int.toNat_natCast]
    have hlt : i < l.length := by omega
    have hltj : j < l.length := by omega
    have hF := ho.fit r0 r9
    have HCC := Lib.hid (fun w => clash_c r _ _ _ _ _ _ w r0 r9 (hF.one hlt) (hF.one hltj))
    have HE : Hid (clashB r (tm l i, lw l i, hg l i) (tm l j, lw l j, hg l j) = cl l r i j) := rfl
    have HSF : Hid (i = j → cl l r i j = false) := fun h => by subst h; exact clashB_self (ho.lh i hlt)
    clear hv hE ho hF
    obtain ⟨b, o, rfl, hbl, ⟨c0_, c1_, c2_⟩, d0_, d1_, d2_⟩ := hr.tri2 hlt hltj
    have HCL : Hid (∀ w1, Below w.heap.size w w1 → (w1.cell? ⟨b, o + i * 3, none⟩ = some (.int .i64 (tm l i)) ∧ w1.cell? ⟨b, o + i * 3 + 1, none⟩ = some (.int .i64 (lw l i)) ∧ w1.cell? ⟨b, o + i * 3 + 2, none⟩ = some (.int .i64 (hg l i))) ∧ w1.cell? ⟨b, o + j * 3, none⟩ = some (.int .i64 (tm l j)) ∧ w1.cell? ⟨b, o + j * 3 + 1, none⟩ = some (.int .i64 (lw l j)) ∧ w1.cell? ⟨b, o + j * 3 + 2, none⟩ = some (.int .i64 (hg l j))) := fun w1 hw => by
      have hh : ∀ j, w1.cell? ⟨b, j, none⟩ = w.cell? ⟨b, j, none⟩ := fun j => hw.cell (p := ⟨b, j, none⟩) hbl
      exact ⟨⟨by rw [hh]; exact c0_, by rw [hh]; exact c1_, by rw [hh]; exact c2_⟩, by rw [hh]; exact d0_, by rw [hh]; exact d1_, by rw [hh]; exact d2_⟩
    clear c0_ c1_ c2_ d0_ d1_ d2_
    generalize tm l i = T1 at *
    generalize lw l i = L1 at *
    generalize hg l i = Hi at *
    generalize tm l j = T2 at *
    generalize lw l j = L2 at *
    generalize hg l j = Hj at *
    generalize clashB r (T1, L1, Hi) (T2, L2, Hj) = v at *
    rw [← HE.out]
    rw [← HE.out] at HSF
    clear HE
    clear HSF
    rcases v with _ | _
    · have htriv := True.intro
      go_enter Try.func25, Try.ntmps25
      go_wp2_with (first | (go_at_call 23; refine HV.out.mono ?_; rintro e w1 ⟨rfl, hb1⟩) | (go_at_call 63; refine (isOneOf_c _ _ _).mono ?_; rintro e w2 ⟨rfl, rfl⟩) | (go_at_call 64; refine (isRate_c _ _).mono ?_; rintro e w2 ⟨rfl, rfl⟩))
      replace HCL := Lib.hid (fun w2 (h : Below w1.heap.size w1 w2) => HCL.out w2 (bl_call hb1 h))
      have hbW : Below w1.heap.size w1 w1.drew := (Below.refl _ _).drew
      refine wp_region_low (hbW) (by kernel_rfl) (by kernel_rfl) ?_
      repeat (first
        | go_big_quiet_skip
        | (go_big_quiet_want
           apply Exists.intro
           refine And.intro (fun W hW => ?_) ?_
           · (obtain ⟨⟨z0, z1, z2⟩, z3, z4, z5⟩ := HCL.out W hW)
             go_simp
             first
               | exact rfl
               | (refine (HCC.out W).mono ?_; rintro e w1 ⟨rfl, hb1⟩; exact ⟨rfl, bl_call hW hb1⟩)
           try go_simp
           go_big_quiet_on))
      refine wpQuiet_nil ?_
      intro w9 hb9
      go_wp2_with (fail)
      go_ret
      exact ⟨rfl, bl_call hb1 hb9⟩
    · have htriv := True.intro
      go_enter Try.func25, Try.ntmps25
      go_wp2_with (first | (go_at_call 23; refine HV.out.mono ?_; rintro e w1 ⟨rfl, hb1⟩) | (go_at_call 63; refine (isOneOf_c _ _ _).mono ?_; rintro e w2 ⟨rfl, rfl⟩) | (go_at_call 64; refine (isRate_c _ _).mono ?_; rintro e w2 ⟨rfl, rfl⟩))
      replace HCL := Lib.hid (fun w2 (h : Below w1.heap.size w1 w2) => HCL.out w2 (bl_call hb1 h))
      have hbW : Below w1.heap.size w1 w1.drew := (Below.refl _ _).drew
      refine wp_region_low (hbW) (by kernel_rfl) (by kernel_rfl) ?_
      repeat (first
        | go_big_quiet_skip
        | (go_big_quiet_want
           apply Exists.intro
           refine And.intro (fun W hW => ?_) ?_
           · (obtain ⟨⟨z0, z1, z2⟩, z3, z4, z5⟩ := HCL.out W hW)
             go_simp
             first
               | exact rfl
               | (refine (HCC.out W).mono ?_; rintro e w1 ⟨rfl, hb1⟩; exact ⟨rfl, bl_call hW hb1⟩)
           try go_simp
           go_big_quiet_on))
      refine wpQuiet_nil ?_
      intro w9 hb9
      go_wp2_with (fail)
      go_ret
      exact ⟨rfl, bl_call hb1 hb9⟩
set_option maxRecDepth 100000 in
set_option maxHeartbeats 4000000 in
theorem rCheckClash_c (A : Option Addr) (l : List T3) (cap : Nat) (r i j : Int) (w : World) (hlen : l.length ≤ 1000) (hr : Rd w A (cellsT l)) :
    Calls Try.prog 26 #[.slice A l.length cap, .int .i64 r, .int .i64 i, .int .i64 j] w fun e w' => e = .returned (.int .i64 (chcE l r i j)) ∧ Below w.heap.size w w' := by
  have HV := Lib.hid (rvalidate_c A l cap w hlen hr)
  rcases chc_cases l r i j with ⟨hv, hE⟩ | ⟨hv, h1, hE⟩ | ⟨hv, h1, h2, hE⟩ | ⟨hv, h1, h2, h3, hE⟩ | ⟨hv, h1, h2, h3, hE⟩
  · have hv' : (validE l != 0) = true := by simpa using hv
    rw [hE]
    generalize validE l = v at *
    clear hE
    go_enter Try.func26, Try.ntmps26
    go_wp2_with (go_at_call 24; refine HV.out.mono ?_; rintro e w1 ⟨rfl, hb1⟩)
    go_ret
    exact ⟨rfl, hb1⟩
  · rw [hE]
    rw [hv] at HV
    clear hv hE
    have hwn : wrap64 ((l.length : Int) - 1) = (l.length : Int) - 1 := IntWalk.wrap64_in _ ⟨by omega, by omega⟩
    rw [← inB_one] at h1
    go_enter Try.func26, Try.ntmps26
    go_wp2_with (first | (go_at_call 24; refine HV.out.mono ?_; rintro e w1 ⟨rfl, hb1⟩) | (go_at_call 62; refine (within_c _ _ _ _).mono ?_; rintro e w2 ⟨rfl, rfl⟩))
    go_ret
    exact ⟨rfl, hb1⟩
  · rw [hE]
    rw [hv] at HV
    clear hv hE
    have hwn : wrap64 ((l.length : Int) - 1) = (l.length : Int) - 1 := IntWalk.wrap64_in _ ⟨by omega, by omega⟩
    rw [← inB_one] at h1 h2
    go_enter Try.func26, Try.ntmps26
    go_wp2_with (first | (go_at_call 24; refine HV.out.mono ?_; rintro e w1 ⟨rfl, hb1⟩) | (go_at_call 62; refine (within_c _ _ _ _).mono ?_; rintro e w2 ⟨rfl, rfl⟩))
    go_ret
    exact ⟨rfl, hb1⟩
  · rw [hE]
    rw [hv] at HV
    clear hv hE
    have hwn : wrap64 ((l.length : Int) - 1) = (l.length : Int) - 1 := IntWalk.wrap64_in _ ⟨by omega, by omega⟩
    rw [← inB_one] at h1 h2
    go_enter Try.func26, Try.ntmps26
    go_wp2_with (first | (go_at_call 24; refine HV.out.mono ?_; rintro e w1 ⟨rfl, hb1⟩) | (go_at_call 62; refine (within_c _ _ _ _).mono ?_; rintro e w2 ⟨rfl, rfl⟩))
    go_ret
    exact ⟨rfl, hb1⟩
  · rw [hE]
    rw [hv] at HV
    have ho := validE_ok.1 hv
    obtain ⟨r0, r9⟩ := inB_z.1 h3
    obtain ⟨i0, i1⟩ := oneB_z.1 h1
    obtain ⟨j0, j1⟩ := oneB_z.1 h2
    obtain ⟨i, rfl⟩ : ∃ n : Nat, i = (n : Int) := ⟨i.toNat, (Int.toNat_of_nonneg i0).symm⟩
    obtain ⟨j, rfl⟩ : ∃ n : Nat, j = (n : Int) := ⟨j.toNat, (Int.toNat_of_nonneg j0).symm⟩
    rw [Int.toNat_natCast, Int.toNat_natCast]
    have hlt : i < l.length := by omega
    have hltj : j < l.length := by omega
    have hF := ho.fit r0 r9
    have HCC := Lib.hid (fun w => rclash_c r _ _ _ _ _ _ w r0 r9 (hF.one hlt) (hF.one hltj))
    have HE : Hid (clashB r (tm l i, lw l i, hg l i) (tm l j, lw l j, hg l j) = cl l r i j) := rfl
    have HSF : Hid (i = j → cl l r i j = false) := fun h => by subst h; exact clashB_self (ho.lh i hlt)
    clear hv hE ho hF
    have hwn : wrap64 ((l.length : Int) - 1) = (l.length : Int) - 1 := IntWalk.wrap64_in _ ⟨by omega, by omega⟩
    rw [← inB_one] at h1 h2
    obtain ⟨b, o, rfl, hbl, ⟨c0_, c1_, c2_⟩, d0_, d1_, d2_⟩ := hr.tri2 hlt hltj
    have HCL : Hid (∀ w1, Below w.heap.size w w1 → (w1.cell? ⟨b, o + i * 3, none⟩ = some (.int .i64 (tm l i)) ∧ w1.cell? ⟨b, o + i * 3 + 1, none⟩ = some (.int .i64 (lw l i)) ∧ w1.cell? ⟨b, o + i * 3 + 2, none⟩ = some (.int .i64 (hg l i))) ∧ w1.cell? ⟨b, o + j * 3, none⟩ = some (.int .i64 (tm l j)) ∧ w1.cell? ⟨b, o + j * 3 + 1, none⟩ = some (.int .i64 (lw l j)) ∧ w1.cell? ⟨b, o + j * 3 + 2, none⟩ = some (.int .i64 (hg l j))) := fun w1 hw => by
      have hh : ∀ j, w1.cell? ⟨b, j, none⟩ = w.cell? ⟨b, j, none⟩ := fun j => hw.cell (p := ⟨b, j, none⟩) hbl
      exact ⟨⟨by rw [hh]; exact c0_, by rw [hh]; exact c1_, by rw [hh]; exact c2_⟩, by rw [hh]; exact d0_, by rw [hh]; exact d1_, by rw [hh]; exact d2_⟩
    clear c0_ c1_ c2_ d0_ d1_ d2_
    generalize tm l i = T1 at *
    generalize lw l i = L1 at *
    generalize hg l i = Hi at *
    generalize tm l j = T2 at *
    generalize lw l j = L2 at *
    generalize hg l j = Hj at *
    generalize clashB r (T1, L1, Hi) (T2, L2, Hj) = v at *
    rw [← HE.out]
    rw [← HE.out] at HSF
    clear HE
    by_cases hij : i = j
    · have hne := natx_eq hij
      have hvf := HSF.out hij
      subst hvf
      clear hij HSF
      go_enter Try.func26, Try.ntmps26
      go_wp2_with (first | (go_at_call 24; refine HV.out.mono ?_; rintro e w1 ⟨rfl, hb1⟩) | (go_at_call 62; refine (within_c _ _ _ _).mono ?_; rintro e w2 ⟨rfl, rfl⟩))
      replace HCL := Lib.hid (fun w2 (h : Below w1.heap.size w1 w2) => HCL.out w2 (bl_call hb1 h))
      have hbW : Below w1.heap.size w1 w1.drew := (Below.refl _ _).drew
      refine wp_region_low (hbW) (by kernel_rfl) (by kernel_rfl) ?_
      repeat (first
        | go_big_quiet_skip
        | (go_big_quiet_want
           apply Exists.intro
           refine And.intro (fun W hW => ?_) ?_
           · (obtain ⟨⟨z0, z1, z2⟩, z3, z4, z5⟩ := HCL.out W hW)
             go_simp
             first
               | exact rfl
               | (refine (HCC.out W).mono ?_; rintro e w1 ⟨rfl, hb1⟩; exact ⟨rfl, bl_call hW hb1⟩)
           try go_simp
           go_big_quiet_on))
      refine wpQuiet_nil ?_
      intro w9 hb9
      go_wp2_with (fail)
      go_ret
      exact ⟨rfl, bl_call hb1 hb9⟩
    · have hne := natx_eq' hij
      clear hij HSF
      rcases v with _ | _
      · have htriv := True.intro
        go_enter Try.func26, Try.ntmps26
        go_wp2_with (first | (go_at_call 24; refine HV.out.mono ?_; rintro e w1 ⟨rfl, hb1⟩) | (go_at_call 62; refine (within_c _ _ _ _).mono ?_; rintro e w2 ⟨rfl, rfl⟩))
        replace HCL := Lib.hid (fun w2 (h : Below w1.heap.size w1 w2) => HCL.out w2 (bl_call hb1 h))
        have hbW : Below w1.heap.size w1 w1.drew := (Below.refl _ _).drew
        refine wp_region_low (hbW) (by kernel_rfl) (by kernel_rfl) ?_
        repeat (first
          | go_big_quiet_skip
          | (go_big_quiet_want
             apply Exists.intro
             refine And.intro (fun W hW => ?_) ?_
             · (obtain ⟨⟨z0, z1, z2⟩, z3, z4, z5⟩ := HCL.out W hW)
               go_simp
               first
                 | exact rfl
                 | (refine (HCC.out W).mono ?_; rintro e w1 ⟨rfl, hb1⟩; exact ⟨rfl, bl_call hW hb1⟩)
             try go_simp
             go_big_quiet_on))
        refine wpQuiet_nil ?_
        intro w9 hb9
        go_wp2_with (fail)
        go_ret
        exact ⟨rfl, bl_call hb1 hb9⟩
      · have htriv := True.intro
        go_enter Try.func26, Try.ntmps26
        go_wp2_with (first | (go_at_call 24; refine HV.out.mono ?_; rintro e w1 ⟨rfl, hb1⟩) | (go_at_call 62; refine (within_c _ _ _ _).mono ?_; rintro e w2 ⟨rfl, rfl⟩))
        replace HCL := Lib.hid (fun w2 (h : Below w1.heap.size w1 w2) => HCL.out w2 (bl_call hb1 h))
        have hbW : Below w1.heap.size w1 w1.drew := (Below.refl _ _).drew
        refine wp_region_low (hbW) (by kernel_rfl) (by kernel_rfl) ?_
        repeat (first
          | go_big_quiet_skip
          | (go_big_quiet_want
             apply Exists.intro
             refine And.intro (fun W hW => ?_) ?_
             · (obtain ⟨⟨z0, z1, z2⟩, z3, z4, z5⟩ := HCL.out W hW)
               go_simp
               first
                 | exact rfl
                 | (refine (HCC.out W).mono ?_; rintro e w1 ⟨rfl, hb1⟩; exact ⟨rfl, bl_call hW hb1⟩)
             try go_simp
             go_big_quiet_on))
        refine wpQuiet_nil ?_
        intro w9 hb9
        go_wp2_with (fail)
        go_ret
        exact ⟨rfl, bl_call hb1 hb9⟩
end Go.Proofs.Ytbbhaongakmhpaa
