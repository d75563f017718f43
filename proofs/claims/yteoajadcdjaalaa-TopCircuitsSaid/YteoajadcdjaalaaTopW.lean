/- The walk of the theorem of the whole stage on circuits. -/
import Derived.Test.YteoajadcdjaalaaTopM
import Derived.Test.YteoajadcdjaalaaFirstsW
import Derived.Test.YteoajadcdjaalaaDepth
import Derived.Test.YteoajadcdjaalaaAngle
namespace Go.Proofs.Yteoajadcdjaalaa
open Go.RowKit

def exX : List G := [(0, 0, -1, 4), (0, 0, -1, 4)]
theorem exX_all : angleE 1 exX (0, 0, -1, 4) = 8 ∧ withE 1 exX [(0, 0, -1, 4)] = 0 := by decide +kernel
theorem own_capT {w : World} {base e size n c : Nat} {A : Option Addr} {xs : List Value} (h : w.ownsRow base e size (.slice A n c) n xs) : n ≤ c := by
  rcases h.2 with ⟨h0, _⟩ | ⟨g, cap, cur, hv, _, _, hle, _, _, _⟩
  · injection h0 with _ h1 h2; omega
  · injection hv with _ _ h2; omega

theorem own_one (w : World) (xk xa xb xt : Int) : (w.alloc (.cells #[.int .i64 xk, .int .i64 xa, .int .i64 xb, .int .i64 xt] 23)).ownsRow w.heap.size 23 4 (.slice (some ⟨w.heap.size, 0, none⟩) 1 1) 1 (cellsG [(xk, xa, xb, xt)]) :=
  ⟨by simp, .inr ⟨w.heap.size, 1, #[.int .i64 xk, .int .i64 xa, .int .i64 xb, .int .i64 xt], rfl, Nat.le_refl _, heap_alloc_new w _, Nat.le_refl _, by unfold maxLen; omega, rfl, by simp [cellsG]⟩⟩

set_option maxRecDepth 100000 in
set_option maxHeartbeats 16000000 in
theorem topCircuits_walk (n : Int) (A : Option Addr) (l : List G) (c : Nat) (B : Option Addr) (m : List G) (d : Nat) (w : World) (hcap : l.length ≤ c) (_hcap2 : m.length ≤ d) (_hn : (Lit.int .i64 n).wf = true) (hr : Rd w A (cellsG l)) (hs : Rd w B (cellsG m)) :
    Calls Try.prog 17 #[.int .i64 n, .slice A l.length c, .slice B m.length d] w fun e w' => e = .returned (.bool true) ∧ Below w.heap.size w w' := by
  obtain ⟨i0, hi, hz0, hz1, hz2⟩ := info_parts gate_info
  have HL := fun w => Lib.hid (long_c A l.length c w)
  have HM := fun w => Lib.hid (long_c B m.length d w)
  have HA : ∀ (b : Nat) (w1 : World), Rd w1 (some ⟨b, 0, none⟩) (cellsG exX) → Hid (Calls Try.prog 45 #[.int .i64 1, .slice (some ⟨b, 0, none⟩) 2 2, .agg #[.int .i64 0, .int .i64 0, .int .i64 (-1), .int .i64 4]] w1 fun e w' => e = .returned (.tuple #[.int .i64 8, .int .i64 0]) ∧ Below w1.heap.size w1 w') := fun b w1 h => by
    have h := Angle_c 1 _ exX 2 0 0 (-1) 4 w1 (by decide) h
    rw [exX_all.1, exX_all.2] at h
    exact h
  have hbx : Below w.heap.size w ((w.alloc (.cells #[.int .i64 0, .int .i64 0, .int .i64 (-1), .int .i64 4] 23)).alloc (.cells (cellsG exX).toArray 23)) := bl_alloc (bl_alloc (Below.refl _ _) _) _
  have hrx : Rd ((w.alloc (.cells #[.int .i64 0, .int .i64 0, .int .i64 (-1), .int .i64 4] 23)).alloc (.cells (cellsG exX).toArray 23)) (some ⟨w.heap.size + 1, 0, none⟩) (cellsG exX) := by
    have h := rd_newG (w.alloc (.cells #[.int .i64 0, .int .i64 0, .int .i64 (-1), .int .i64 4] 23)) exX
    simpa using h
  go_enter Try.func17, Try.ntmps17
  go_wp2_with (fail)
  refine (HA _ _ hrx).out.mono ?_
  rintro e wa ⟨rfl, hba⟩
  have hb0 := bl_call hbx hba
  clear HA hrx hbx hba
  by_cases hlong : 50 < l.length
  · rw [decide_eq_true hlong] at HL
    go_wp2_with (fail)
    refine (HL _).out.mono ?_
    rintro e w1 ⟨rfl, rfl⟩
    go_wp2_with (fail)
    go_ret
    exact ⟨rfl, hb0⟩
  · rw [decide_eq_false hlong] at HL
    go_wp2_with (fail)
    refine (HL _).out.mono ?_
    rintro e w1 ⟨rfl, rfl⟩
    by_cases hlong2 : 50 < m.length
    · rw [decide_eq_true hlong2] at HM
      go_wp2_with (fail)
      refine (HM _).out.mono ?_
      rintro e w1 ⟨rfl, rfl⟩
      go_wp2_with (fail)
      go_ret
      exact ⟨rfl, hb0⟩
    · rw [decide_eq_false hlong2] at HM
      have hlen : l.length ≤ 1000 := by omega
      have hlen' : m.length ≤ 1000 := by omega
      clear hlong hlong2
      go_wp2_with (fail)
      refine (HM _).out.mono ?_
      rintro e w1 ⟨rfl, rfl⟩
      clear HL HM
      have HC := fun w1 h => Lib.hid (Count_c n A l c w1 hlen h)
      by_cases hv : validE n l = 0
      · have hlen2 := hlen
        obtain ⟨F, hF, hFl, hfst, hsum, hone, hK⟩ := top_firsts hv
        obtain ⟨o1, o2, o3, o4, o5, o6, o7, o8, o9, o10, o11, o12⟩ := top_one hv
        have o13 : (invL l).length ≤ 1000 := by rw [invL_len]; omega
        have o14 : (invL (reducedL l)).length ≤ 1000 := by rw [invL_len]; omega
        rw [if_pos hv, hv] at HC
        have HF := fun w1 h => Lib.hid (Firsts_c n A l c w1 hlen h)
        rw [hF, hv] at HF
        have HY := fun w1 h => Lib.hid (Layers_c n A l c w1 hlen h)
        rw [hv] at HY
        have HD := fun w1 h => Lib.hid (Depth_c n A l c w1 hlen h)
        rw [hv] at HD
        have HN := fun w1 h => Lib.hid (Name_c n A l c w1 hlen h)
        unfold OutG at HN
        rw [o1, hv, o11] at HN
        have HR1 := fun w1 h => Lib.hid (Reduce_c n A l c w1 hlen h)
        rw [o3, hv] at HR1
        have HR2 := fun A' c' w1 h => Lib.hid (Reduce_c n A' (nameL l) c' w1 (by omega) h)
        rw [o4, o2, o11] at HR2
        have HI1 := fun A' c' w1 h => Lib.hid (Inverse_c n A' (reducedL l) c' w1 (by omega) h)
        rw [o7, o5] at HI1
        have HI2 := fun w1 h => Lib.hid (Inverse_c n A l c w1 hlen h)
        rw [o6, hv] at HI2
        have HE := fun A' B' c' d' w1 h h2 => Lib.hid (Equal_c n A' B' (invL l) (invL (reducedL l)) c' d' w1 o13 o14 h h2)
        rw [o9, o10] at HE
        have HS1 := fun A' B' c' d' w1 h h2 => Lib.hid (same_c A' B' (reducedL l) (reducedL l) c' d' w1 (by omega) h h2)
        rw [show sameL (reducedL l) (reducedL l) = true by simp [sameL]] at HS1
        have HJ := fun w1 h h2 => Lib.hid (Join_c n A B l m c d w1 hlen hlen' h h2)
        have HTW := Lib.hid (@top_two n l m)
        have HJN : Hid (joinE n l m ≠ 0 → joinG n l m = []) := fun h => by rw [joinG, if_neg h]
        have HK := Lib.hid hK
        have HFL := Lib.hid hFl
        have HSU : Hid ((0 < l.length ∧ psum (fun i => cntL (l.eraseIdx i)) F = cntL l) ∨ (l.length = 0 ∧ cntL l = 1)) := by
          show _ ∨ _
          rcases Nat.eq_zero_or_pos l.length with h | h
          · exact .inr ⟨h, hone h⟩
          · exact .inl ⟨h, hsum h⟩
        have HFS := Lib.hid hfst
        clear hF hFl hfst hsum hone hK o1 o2 o3 o4 o5 o6 o7 o8 o9 o10 o11 o12 o13 o14
        generalize lysL n l = T at *
        generalize nameL l = NM at *
        go_wp2_with (fail)
        refine (HC _ (hr.later hb0)).out.mono ?_
        rintro e w1 ⟨rfl, hb1⟩
        replace hb1 := bl_call hb0 hb1
        clear hb0 HC
        go_wp2_with (fail)
        refine (HF _ (hr.later hb1)).out.mono ?_
        rintro e w2 ⟨A2, c2, rfl, ho2, hb2⟩
        have hb02 := bl_call hb1 hb2
        clear hb2 hb1 HF
        go_wp2_with (fail)
        refine (HY _ (hr.later hb02)).out.mono ?_
        rintro e w3 ⟨A3, c3, hs3, rfl, _, _, hb3⟩
        have ho2 := own_call ho2 hb3
        replace hb02 := bl_call hb02 hb3
        clear hb3 HY
        go_wp2_with (fail)
        refine (HD _ (hr.later hb02)).out.mono ?_
        rintro e w4 ⟨rfl, hb4⟩
        have ho2 := own_call ho2 hb4
        replace hb02 := bl_call hb02 hb4
        clear hb4 HD
        go_wp2_with (fail)
        refine (HN _ (hr.later hb02)).out.mono ?_
        rintro e w5 ⟨A5, c5, rfl, ho5, hb5⟩
        have ho2 := own_call ho2 hb5
        replace hb02 := bl_call hb02 hb5
        have hr5 := (own_rd ho5).1
        clear hb5 HN ho5
        obtain ⟨wo, rfl⟩ : ∃ wo, wo = w5 := ⟨_, rfl⟩
        go_wp2_with (fail)
        go_loopg [20, 21] F.length (fun gk sv iv wr => ∃ k : Nat, Hid (k + gk = F.length) ∧ iv = .int .i64 (k : Int) ∧ sv = .int .i64 ((psum (fun i => cntL (l.eraseIdx i)) (F.take k) : Nat) : Int) ∧ Below wo.heap.size wo wr)
        case atStart => exact ⟨0, by simp [Hid], rfl, rfl, Below.refl _ _⟩
        case round =>
          obtain ⟨k, HKI, rfl, rfl, hb⟩ := hrel
          rcases gk with _ | gi
          · obtain rfl : k = F.length := HKI.out
            have hbe := bl_call hb02 hb
            have hrr := hr.later hbe
            have hsr := hs.later hbe
            have hr5 := hr5.later hb
            rw [List.take_length]
            generalize psum (fun i => cntL (l.eraseIdx i)) F = S at *
            generalize cntL l = K at *
            clear HFS hb02 ho2 hb
            rcases HSU.out with ⟨h0, rfl⟩ | ⟨h0, rfl⟩
            · have h0' : (0 : Int) < (l.length : Int) := by omega
              have h0i : ¬ ((l.length : Nat) : Int) = 0 := by omega
              have h0n : ¬ l.length = 0 := by omega
              clear HSU HKI HK
              go_wp2_with (fail)
              refine (HR1 _ hrr).out.mono ?_
              rintro e w6 ⟨A6, c6, rfl, ho6, hb6⟩
              go_wp2_with (fail)
              refine (HR2 _ _ _ (hr5.later hb6)).out.mono ?_
              rintro e w7 ⟨A7, c7, rfl, ho7, hb7⟩
              have hr6 := (own_rd ho6).1.later hb7
              go_wp2_with (fail)
              refine (HI1 _ _ _ hr6).out.mono ?_
              rintro e w8 ⟨A8, c8, rfl, ho8, hb8⟩
              replace hr6 := hr6.later hb8
              have hr7 := (own_rd ho7).1.later hb8
              have hb68 := bl_call (bl_call hb6 hb7) hb8
              clear HR1 HR2 HI1 ho6 ho7 hb6 hb7 hb8 hr5
              go_wp2_with (fail)
              refine (HS1 _ _ _ _ _ hr6 hr7).out.mono ?_
              rintro e w9 ⟨rfl, hb9⟩
              have hr8 := (own_rd ho8).1.later hb9
              have hb69 := bl_call hb68 hb9
              replace hr6 := hr6.later hb9
              clear HS1 ho8 hb9 hb68 hr7
              go_wp2_with (fail)
              refine (HI2 _ (hrr.later hb69)).out.mono ?_
              rintro e w10 ⟨A10, c10, rfl, ho10, hb10⟩
              have hr10 := (own_rd ho10).1
              replace hr8 := hr8.later hb10
              have hb610 := bl_call hb69 hb10
              replace hr6 := hr6.later hb10
              clear HI2 ho10 hb69 hb10
              go_wp2_with (fail)
              refine (HE _ _ _ _ _ hr10 hr8).out.mono ?_
              rintro e w11 ⟨rfl, hb11⟩
              have hb611 := bl_call hb610 hb11
              replace hr6 := hr6.later hb11
              replace hr10 := hr10.later hb11
              clear HE hb610 hb11 hr8
              go_wp2_with (fail)
              refine (HJ _ (hrr.later hb611) (hsr.later hb611)).out.mono ?_
              rintro e w12 ⟨A12, c12, rfl, ho12, hb12⟩
              have hb612 := bl_call hb611 hb12
              replace hr6 := hr6.later hb12
              replace hr10 := hr10.later hb12
              have hr12 := (own_rd ho12).1
              have hb012 := bl_call hbe hb612
              have hsr12 := hsr.later hb612
              clear HJ hb611 hb12 ho12 hrr hsr hb612 hbe
              by_cases hj : joinE n l m = 0
              · obtain ⟨p1, p2, p3, p4, p5, p6, p7, p8, p9, p10, p11, p12, p13, p14, p15, p16⟩ := HTW.out hj
                have q1 : (reducedL l).length ≤ 1000 := by rw [red_len]; have := shortL_len l; omega
                have q2 : (reducedL m).length ≤ 1000 := by rw [red_len]; have := shortL_len m; omega
                have q3 : (l ++ m).length ≤ 1000 := by rw [List.length_append]; omega
                have q4 : (reducedL l ++ reducedL m).length ≤ 1000 := by rw [List.length_append, red_len, red_len]; have := shortL_len l; have := shortL_len m; omega
                have q5 : (reducedL (l ++ m)).length ≤ 1000 := by omega
                have q6 : (invL m).length ≤ 1000 := by rw [invL_len]; omega
                have q7 : (invL l).length ≤ 1000 := by rw [invL_len]; omega
                have q8 : (invL (l ++ m)).length ≤ 1000 := by rw [invL_len]; omega
                have HR3 := fun w1 h => Lib.hid (Reduce_c n B m d w1 hlen' h)
                rw [p4, p2] at HR3
                have HJ2 := fun A' B' c' d' w1 h h2 => Lib.hid (Join_c n A' B' (reducedL l) (reducedL m) c' d' w1 q1 q2 h h2)
                rw [p6, p5] at HJ2
                have HR4 := fun A' c' w1 h => Lib.hid (Reduce_c n A' (l ++ m) c' w1 q3 h)
                rw [p9, p7] at HR4
                have HR5 := fun A' c' w1 h => Lib.hid (Reduce_c n A' (reducedL l ++ reducedL m) c' w1 q4 h)
                rw [p10, p8] at HR5
                have HS2 := fun A' B' c' d' w1 h h2 => Lib.hid (same_c A' B' (reducedL (l ++ m)) (reducedL (l ++ m)) c' d' w1 q5 h h2)
                rw [show sameL (reducedL (l ++ m)) (reducedL (l ++ m)) = true by simp [sameL]] at HS2
                have HI3 := fun w1 h => Lib.hid (Inverse_c n B m d w1 hlen' h)
                rw [p11, p2] at HI3
                have HI4 := fun A' c' w1 h => Lib.hid (Inverse_c n A' (l ++ m) c' w1 q3 h)
                rw [p12, p7] at HI4
                have HJ3 := fun A' B' c' d' w1 h h2 => Lib.hid (Join_c n A' B' (invL m) (invL l) c' d' w1 q6 q7 h h2)
                rw [p14, p13] at HJ3
                have HS3 := fun A' B' c' d' w1 h h2 => Lib.hid (same_c A' B' (invL (l ++ m)) (invL (l ++ m)) c' d' w1 q8 h h2)
                rw [show sameL (invL (l ++ m)) (invL (l ++ m)) = true by simp [sameL]] at HS3
                clear HTW HJN p1 p2 p4 p5 p6 p7 p8 p9 p10 p11 p12 p13 p14 p15 p16 q1 q2 q3 q4 q5 q6 q7 q8
                generalize joinE n l m = ej at *
                subst hj
                generalize joinG n l m = J at *
                subst p3
                generalize invL (l ++ m) = IJ at *
                generalize reducedL (l ++ m) = RJ at *
                generalize reducedL l ++ reducedL m = SJ at *
                generalize l ++ m = J at *
                generalize invL l = Il at *
                generalize invL m = Im at *
                generalize reducedL l = Rl at *
                generalize reducedL m = Rm at *
                go_wp2_with (fail)
                refine (HR3 _ hsr12).out.mono ?_
                rintro e w13 ⟨A13, c13, rfl, ho13, hb13⟩
                replace hr6 := hr6.later hb13
                have hr13 := (own_rd ho13).1
                go_wp2_with (fail)
                refine (HJ2 _ _ _ _ _ hr6 hr13).out.mono ?_
                rintro e w14 ⟨A14, c14, rfl, ho14, hb14⟩
                have hb1214 := bl_call hb13 hb14
                replace hr12 := hr12.later hb1214
                clear HR3 HJ2 ho13 hr6 hr13 hb13 hb14
                go_wp2_with (fail)
                refine (HR4 _ _ _ hr12).out.mono ?_
                rintro e w15 ⟨A15, c15, rfl, ho15, hb15⟩
                have hr14 := (own_rd ho14).1.later hb15
                go_wp2_with (fail)
                refine (HR5 _ _ _ hr14).out.mono ?_
                rintro e w16 ⟨A16, c16, rfl, ho16, hb16⟩
                have hb1416 := bl_call hb15 hb16
                have hr15 := (own_rd ho15).1.later hb16
                have hr16 := (own_rd ho16).1
                replace hr12 := hr12.later hb1416
                have hb1216 := bl_call hb1214 hb1416
                clear HR4 HR5 ho14 ho15 ho16 hr14 hb15 hb16 hb1214 hb1416
                go_wp2_with (fail)
                refine (HS2 _ _ _ _ _ hr15 hr16).out.mono ?_
                rintro e w17 ⟨rfl, hb17⟩
                have hb1217 := bl_call hb1216 hb17
                replace hr12 := hr12.later hb17
                have hsr17 := hsr12.later hb1217
                have hb017 := bl_call hb012 hb1217
                replace hr10 := hr10.later hb1217
                clear HS2 hr15 hr16 hb17 hb1217 hb1216 hsr12 hb012
                go_wp2_with (fail)
                refine (HI3 _ hsr17).out.mono ?_
                rintro e w18 ⟨A18, c18, rfl, ho18, hb18⟩
                replace hr12 := hr12.later hb18
                go_wp2_with (fail)
                refine (HI4 _ _ _ hr12).out.mono ?_
                rintro e w19 ⟨A19, c19, rfl, ho19, hb19⟩
                have hb1719 := bl_call hb18 hb19
                have hr18 := (own_rd ho18).1.later hb19
                replace hr10 := hr10.later hb1719
                clear HI3 HI4 ho18 hb18 hb19 hr12 hsr17
                go_wp2_with (fail)
                refine (HJ3 _ _ _ _ _ hr18 hr10).out.mono ?_
                rintro e w20 ⟨A20, c20, rfl, ho20, hb20⟩
                have hr19 := (own_rd ho19).1.later hb20
                go_wp2_with (fail)
                refine (HS3 _ _ _ _ _ hr19 (own_rd ho20).1).out.mono ?_
                rintro e w21 ⟨rfl, hb21⟩
                go_wp2_with (fail)
                go_ret
                exact ⟨rfl, bl_call hb017 (bl_call (bl_call hb1719 hb20) hb21)⟩
              · have h := HJN.out hj
                generalize joinE n l m = ej at *
                generalize joinG n l m = J at *
                subst h
                go_wp2_with (fail)
                go_ret
                exact ⟨rfl, hb012⟩
            · have h0' : ((l.length : Nat) : Int) = 0 := by omega
              have H0 := Lib.hid h0
              clear h0
              clear HSU HKI HK
              go_wp2_with (fail)
              refine (HR1 _ hrr).out.mono ?_
              rintro e w6 ⟨A6, c6, rfl, ho6, hb6⟩
              go_wp2_with (fail)
              refine (HR2 _ _ _ (hr5.later hb6)).out.mono ?_
              rintro e w7 ⟨A7, c7, rfl, ho7, hb7⟩
              have hr6 := (own_rd ho6).1.later hb7
              go_wp2_with (fail)
              refine (HI1 _ _ _ hr6).out.mono ?_
              rintro e w8 ⟨A8, c8, rfl, ho8, hb8⟩
              replace hr6 := hr6.later hb8
              have hr7 := (own_rd ho7).1.later hb8
              have hb68 := bl_call (bl_call hb6 hb7) hb8
              clear HR1 HR2 HI1 ho6 ho7 hb6 hb7 hb8 hr5
              go_wp2_with (fail)
              refine (HS1 _ _ _ _ _ hr6 hr7).out.mono ?_
              rintro e w9 ⟨rfl, hb9⟩
              have hr8 := (own_rd ho8).1.later hb9
              have hb69 := bl_call hb68 hb9
              replace hr6 := hr6.later hb9
              clear HS1 ho8 hb9 hb68 hr7
              go_wp2_with (fail)
              refine (HI2 _ (hrr.later hb69)).out.mono ?_
              rintro e w10 ⟨A10, c10, rfl, ho10, hb10⟩
              have hr10 := (own_rd ho10).1
              replace hr8 := hr8.later hb10
              have hb610 := bl_call hb69 hb10
              replace hr6 := hr6.later hb10
              clear HI2 ho10 hb69 hb10
              go_wp2_with (fail)
              refine (HE _ _ _ _ _ hr10 hr8).out.mono ?_
              rintro e w11 ⟨rfl, hb11⟩
              have hb611 := bl_call hb610 hb11
              replace hr6 := hr6.later hb11
              replace hr10 := hr10.later hb11
              clear HE hb610 hb11 hr8
              go_wp2_with (fail)
              refine (HJ _ (hrr.later hb611) (hsr.later hb611)).out.mono ?_
              rintro e w12 ⟨A12, c12, rfl, ho12, hb12⟩
              have hb612 := bl_call hb611 hb12
              replace hr6 := hr6.later hb12
              replace hr10 := hr10.later hb12
              have hr12 := (own_rd ho12).1
              have hb012 := bl_call hbe hb612
              have hsr12 := hsr.later hb612
              clear HJ hb611 hb12 ho12 hrr hsr hb612 hbe
              by_cases hj : joinE n l m = 0
              · obtain ⟨p1, p2, p3, p4, p5, p6, p7, p8, p9, p10, p11, p12, p13, p14, p15, p16⟩ := HTW.out hj
                have q1 : (reducedL l).length ≤ 1000 := by rw [red_len]; have := shortL_len l; omega
                have q2 : (reducedL m).length ≤ 1000 := by rw [red_len]; have := shortL_len m; omega
                have q3 : (l ++ m).length ≤ 1000 := by rw [List.length_append]; omega
                have q4 : (reducedL l ++ reducedL m).length ≤ 1000 := by rw [List.length_append, red_len, red_len]; have := shortL_len l; have := shortL_len m; omega
                have q5 : (reducedL (l ++ m)).length ≤ 1000 := by omega
                have q6 : (invL m).length ≤ 1000 := by rw [invL_len]; omega
                have q7 : (invL l).length ≤ 1000 := by rw [invL_len]; omega
                have q8 : (invL (l ++ m)).length ≤ 1000 := by rw [invL_len]; omega
                have HR3 := fun w1 h => Lib.hid (Reduce_c n B m d w1 hlen' h)
                rw [p4, p2] at HR3
                have HJ2 := fun A' B' c' d' w1 h h2 => Lib.hid (Join_c n A' B' (reducedL l) (reducedL m) c' d' w1 q1 q2 h h2)
                rw [p6, p5] at HJ2
                have HR4 := fun A' c' w1 h => Lib.hid (Reduce_c n A' (l ++ m) c' w1 q3 h)
                rw [p9, p7] at HR4
                have HR5 := fun A' c' w1 h => Lib.hid (Reduce_c n A' (reducedL l ++ reducedL m) c' w1 q4 h)
                rw [p10, p8] at HR5
                have HS2 := fun A' B' c' d' w1 h h2 => Lib.hid (same_c A' B' (reducedL (l ++ m)) (reducedL (l ++ m)) c' d' w1 q5 h h2)
                rw [show sameL (reducedL (l ++ m)) (reducedL (l ++ m)) = true by simp [sameL]] at HS2
                have HI3 := fun w1 h => Lib.hid (Inverse_c n B m d w1 hlen' h)
                rw [p11, p2] at HI3
                have HI4 := fun A' c' w1 h => Lib.hid (Inverse_c n A' (l ++ m) c' w1 q3 h)
                rw [p12, p7] at HI4
                have HJ3 := fun A' B' c' d' w1 h h2 => Lib.hid (Join_c n A' B' (invL m) (invL l) c' d' w1 q6 q7 h h2)
                rw [p14, p13] at HJ3
                have HS3 := fun A' B' c' d' w1 h h2 => Lib.hid (same_c A' B' (invL (l ++ m)) (invL (l ++ m)) c' d' w1 q8 h h2)
                rw [show sameL (invL (l ++ m)) (invL (l ++ m)) = true by simp [sameL]] at HS3
                clear HTW HJN p1 p2 p4 p5 p6 p7 p8 p9 p10 p11 p12 p13 p14 p15 p16 q1 q2 q3 q4 q5 q6 q7 q8
                generalize joinE n l m = ej at *
                subst hj
                generalize joinG n l m = J at *
                subst p3
                generalize invL (l ++ m) = IJ at *
                generalize reducedL (l ++ m) = RJ at *
                generalize reducedL l ++ reducedL m = SJ at *
                generalize l ++ m = J at *
                generalize invL l = Il at *
                generalize invL m = Im at *
                generalize reducedL l = Rl at *
                generalize reducedL m = Rm at *
                go_wp2_with (fail)
                refine (HR3 _ hsr12).out.mono ?_
                rintro e w13 ⟨A13, c13, rfl, ho13, hb13⟩
                replace hr6 := hr6.later hb13
                have hr13 := (own_rd ho13).1
                go_wp2_with (fail)
                refine (HJ2 _ _ _ _ _ hr6 hr13).out.mono ?_
                rintro e w14 ⟨A14, c14, rfl, ho14, hb14⟩
                have hb1214 := bl_call hb13 hb14
                replace hr12 := hr12.later hb1214
                clear HR3 HJ2 ho13 hr6 hr13 hb13 hb14
                go_wp2_with (fail)
                refine (HR4 _ _ _ hr12).out.mono ?_
                rintro e w15 ⟨A15, c15, rfl, ho15, hb15⟩
                have hr14 := (own_rd ho14).1.later hb15
                go_wp2_with (fail)
                refine (HR5 _ _ _ hr14).out.mono ?_
                rintro e w16 ⟨A16, c16, rfl, ho16, hb16⟩
                have hb1416 := bl_call hb15 hb16
                have hr15 := (own_rd ho15).1.later hb16
                have hr16 := (own_rd ho16).1
                replace hr12 := hr12.later hb1416
                have hb1216 := bl_call hb1214 hb1416
                clear HR4 HR5 ho14 ho15 ho16 hr14 hb15 hb16 hb1214 hb1416
                go_wp2_with (fail)
                refine (HS2 _ _ _ _ _ hr15 hr16).out.mono ?_
                rintro e w17 ⟨rfl, hb17⟩
                have hb1217 := bl_call hb1216 hb17
                replace hr12 := hr12.later hb17
                have hsr17 := hsr12.later hb1217
                have hb017 := bl_call hb012 hb1217
                replace hr10 := hr10.later hb1217
                clear HS2 hr15 hr16 hb17 hb1217 hb1216 hsr12 hb012
                go_wp2_with (fail)
                refine (HI3 _ hsr17).out.mono ?_
                rintro e w18 ⟨A18, c18, rfl, ho18, hb18⟩
                replace hr12 := hr12.later hb18
                go_wp2_with (fail)
                refine (HI4 _ _ _ hr12).out.mono ?_
                rintro e w19 ⟨A19, c19, rfl, ho19, hb19⟩
                have hb1719 := bl_call hb18 hb19
                have hr18 := (own_rd ho18).1.later hb19
                replace hr10 := hr10.later hb1719
                clear HI3 HI4 ho18 hb18 hb19 hr12 hsr17
                go_wp2_with (fail)
                refine (HJ3 _ _ _ _ _ hr18 hr10).out.mono ?_
                rintro e w20 ⟨A20, c20, rfl, ho20, hb20⟩
                have hr19 := (own_rd ho19).1.later hb20
                go_wp2_with (fail)
                refine (HS3 _ _ _ _ _ hr19 (own_rd ho20).1).out.mono ?_
                rintro e w21 ⟨rfl, hb21⟩
                go_wp2_with (fail)
                go_ret
                exact ⟨rfl, bl_call hb017 (bl_call (bl_call hb1719 hb20) hb21)⟩
              · have h := HJN.out hj
                generalize joinE n l m = ej at *
                generalize joinG n l m = J at *
                subst h
                go_wp2_with (fail)
                go_ret
                exact ⟨rfl, hb012⟩
          · have hkF : k < F.length := by have h := HKI.out; omega
            have hkF' : (k : Int) < (F.length : Int) := by omega
            obtain ⟨j, hj1, hj2, hj3, hj4, hj5, hj6⟩ := HFS.out k hkF
            have hrb := (hr.later hb02).later hb
            obtain ⟨b, o, rfl, hbl, g0', g1', g2', g3'⟩ := hrb.gate hj2
            have hel : (l.eraseIdx j).length = 0 + j + (l.length - (j + 1)) := by rw [List.length_eraseIdx, if_pos hj2]; omega
            have hle : (l.eraseIdx j).length ≤ 1000 := by omega
            have HC2 := fun B' c' w1 h => Lib.hid (Count_c n B' (l.eraseIdx j) c' w1 hle h)
            rw [if_pos hj3, hj3] at HC2
            have hcons : (l.getD j g0 :: l.eraseIdx j).length = 1 + (l.eraseIdx j).length := by simp; omega
            have HAl := fun B' c' w1 h1 h2 => Lib.hid (Alike_c n (some ⟨b, o, none⟩) B' l (l.getD j g0 :: l.eraseIdx j) c c' w1 hlen (by omega) h1 h2)
            rw [hj6, hj5, hcons] at HAl
            have hp1 : psum (fun i => cntL (l.eraseIdx i)) (F.take (k + 1)) = psum (fun i => cntL (l.eraseIdx i)) (F.take k) + cntL (l.eraseIdx j) := by rw [psum_take _ hkF, hj1]; rfl
            have hp2 : psum (fun i => cntL (l.eraseIdx i)) (F.take (k + 1)) ≤ 10000000000 := by
              have h1 := psum_le (fun i => cntL (l.eraseIdx i)) F (k + 1)
              have h2 := HK.out
              rcases HSU.out with ⟨_, h⟩ | ⟨h, _⟩ <;> omega
            have hfc := (own_call ho2 hb)
            have hkc := own_capT hfc
            obtain ⟨g2, rfl, hg2, hg2l, _, hcell⟩ := own_cell hfc (by omega)
            have hfk : wr.cell? ⟨g2, k, none⟩ = some (.int .i64 (j : Int)) := hcell k _ (by rw [← hj1]; simp [ints, hkF])
            have hkc2 : k < c2 := by omega
            have hb1 : Below wr.heap.size wr (wr.alloc (.cells #[] 23)).drew := (bl_alloc (Below.refl _ _) _).drew
            have ho0 : (wr.alloc (.cells #[] 23)).drew.ownsRow wr.heap.size 23 4 (.slice (some ⟨wr.heap.size, 0, none⟩) 0 0) 0 (cellsG []) := own_call (World.ownsRow_made (e := 23) (size := 4) wr #[] 0 (Nat.le_refl _) (by decide) rfl) (Below.refl _ _).drew
            obtain ⟨A1, c1, w1, hrun1, ho1, hg1⟩ := run_append_gates ho0 hb1.size b o c (l.take j) (rd_upto j (hrb.later hb1)) rfl (by simp; omega)
            have hb2 : Below wr.heap.size wr w1 := hb1.trans (grown_below ho0 hg1 hb1.size)
            have hti : (l.take j).length = j := by simp; omega
            obtain ⟨o2, ho2e, hrd2⟩ : ∃ o2, (if c = j + 1 then some (⟨b, o, none⟩ : Addr) else some ⟨b, o + (j + 1) * 4, none⟩) = some ⟨b, o2, none⟩ ∧ Rd w1 (some ⟨b, o2, none⟩) (cellsG (l.drop (j + 1))) := by
              by_cases h : c = j + 1
              · exact ⟨o, by rw [if_pos h], .inl (by rw [List.drop_of_length_le (by omega)]; rfl)⟩
              · exact ⟨_, by rw [if_neg h], rd_from (j + 1) (hrb.later hb2)⟩
            obtain ⟨A4, c4, w2, hrun2, ho4, hg4⟩ := run_append_gates ho1 hb2.size b o2 (c - (j + 1)) (l.drop (j + 1)) hrd2 (by simp) (by simp; omega)
            have hb3 : Below wr.heap.size wr w2 := hb2.trans (grown_below ho1 hg4 hb2.size)
            have hdl : (l.drop (j + 1)).length = l.length - (j + 1) := by simp
            have hee : [] ++ l.take j ++ l.drop (j + 1) = l.eraseIdx j := by rw [List.nil_append, List.eraseIdx_eq_take_drop_succ]
            rw [hee] at ho4
            rw [hti, hdl, ← hel] at ho4 hrun2
            rw [hti] at hrun1
            have E1 := Lib.hid hrun1
            have E2 := Lib.hid hrun2
            have hr4 := (own_rd ho4).1
            have q1 : j ≤ c := by omega
            have q2 : (j : Int) ≤ (c : Int) := by omega
            have q3 : (0 : Int) ≤ (j : Int) + 1 := by omega
            have q4 : (j : Int) + 1 ≤ (l.length : Int) := by omega
            have q5 : j + 1 ≤ l.length := by omega
            have q6 : (l.length : Int) ≤ (c : Int) := by omega
            have q7 : j ≤ l.length := by omega
            have q8 : IntKind.i64.wrap ((j : Int) + 1) = (j : Int) + 1 := by simp [IntKind.wrap, IntKind.bits, IntKind.signed]; omega
            have q9 : (0 : Int) ≤ (j : Int) := by omega
            have q10 : (j : Int) < (l.length : Int) := by omega
            have HEL := Lib.hid hle
            have HJ2 := Lib.hid hj2
            clear hrun1 hrun2 ho4 hel ho0 ho1 hg1 hg4 hti hdl hee hrd2 hcons hle hj1 hj3 hj4 hj5 hj6 hcell hfc hkc hb1 hb2
            generalize l.getD j g0 = x at *
            obtain ⟨xk, xa, xb, xt⟩ := x
            simp only [] at g0' g1' g2' g3'
            generalize l.eraseIdx j = er at *
            generalize hS2 : psum (fun i => cntL (l.eraseIdx i)) (F.take (k + 1)) = S2 at *
            have HS2 := Lib.hid hS2
            generalize psum (fun i => cntL (l.eraseIdx i)) (F.take k) = S1 at *
            generalize cntL er = ce at *
            have hws : IntKind.i64.wrap ((S1 : Int) + (ce : Int)) = (S2 : Int) := by simp [IntKind.wrap, IntKind.bits, IntKind.signed]; omega
            clear hp1 hp2 hS2
            go_wp2_with (fail)
            go_region_law (first
              | (refine step_append_run rfl (.tmp 143) (.tmp 146) 29 rfl (.slice (some ⟨wr.heap.size, 0, none⟩) 0 0) (.slice (some ⟨b, o, none⟩) j c) (.slice A1 (0 + j) c1) w1 (by simp [Act.eval]) (by simp [Act.eval]) E1.out ?_)
              | (refine step_append_run rfl (.tmp 147) (.tmp 151) 29 rfl (.slice A1 (0 + j) c1) (.slice (some ⟨b, o2, none⟩) (l.length - (j + 1)) (c - (j + 1))) (.slice A4 er.length c4) w2 (by simp [Act.eval]) (by simp [Act.eval, ← ho2e]) E2.out ?_))
            all_goals
              go_wp2_with (fail)
              refine (HC2 _ _ _ hr4).out.mono ?_
              rintro e w3 ⟨rfl, hb4⟩
              have hb34 := bl_call hb3 hb4
              have hrc := hrb.later hb34
              have k0 := (hb34.cell (p := ⟨b, o + j * 4, none⟩) hbl).trans g0'
              have k1 := (hb34.cell (p := ⟨b, o + j * 4 + 1, none⟩) hbl).trans g1'
              have k2 := (hb34.cell (p := ⟨b, o + j * 4 + 2, none⟩) hbl).trans g2'
              have k3 := (hb34.cell (p := ⟨b, o + j * 4 + 3, none⟩) hbl).trans g3'
              have hr4c := hr4.later hb4
              have ho5 : (w3.alloc (.cells #[.int .i64 xk, .int .i64 xa, .int .i64 xb, .int .i64 xt] 23)).ownsRow w3.heap.size 23 4 (.slice (some ⟨w3.heap.size, 0, none⟩) 1 1) 1 (cellsG [(xk, xa, xb, xt)]) := own_one w3 xk xa xb xt
              have hb5 : Below w3.heap.size w3 (w3.alloc (.cells #[.int .i64 xk, .int .i64 xa, .int .i64 xb, .int .i64 xt] 23)) := bl_alloc (Below.refl _ _) _
              have hre := HEL.out
              go_wp2_with (at_builtin; refine wpList_append_any rfl _ _ 29 rfl w3.heap.size 23 i0 _ 32 Try.underlying29 hi hz0 hz1 hz2 rfl _ 1 (cellsG [(xk, xa, xb, xt)]) rfl ho5 A4 er c4 rfl (hr4c.later hb5) (by unfold maxLen; omega) (by omega) (by simp) ?_)
              intro A6 c6 w6 ho6 hg6
              have hb6 : Below w3.heap.size w3 w6 := hb5.trans (grown_below ho5 hg6 (by simp))
              have hr6 : Rd w6 A6 (cellsG ((xk, xa, xb, xt) :: er)) := (own_rd ho6).1
              clear hg6 ho6 ho5 hb5 k0 k1 k2 k3
              go_wp2_with (fail)
              refine (HAl _ _ _ (hrc.later hb6) hr6).out.mono ?_
              rintro e w7 ⟨rfl, hb7⟩
              have h10 := HFL.out
              have hk10 : (k : Int) < 10 := by omega
              go_wp2_with (fail)
              go_roundg gi
              case rel => exact ⟨k + 1, by have h := HKI.out; show _ = _; omega, by go_num, by rw [HS2.out], bl_call hb (bl_call (bl_call hb34 hb6) hb7)⟩
              case measure => omega
      · have hne := hv
        have HV := fun w1 h => Lib.hid (validate_c n A l c w1 hlen h)
        rw [if_neg hv] at HC
        generalize validE n l = ev at *
        go_wp2_with (fail)
        refine (HC _ (hr.later hb0)).out.mono ?_
        rintro e w1 ⟨rfl, hb1⟩
        replace hb1 := bl_call hb0 hb1
        go_wp2_with (fail)
        refine (HV _ (hr.later hb1)).out.mono ?_
        rintro e w2 ⟨rfl, hb2⟩
        go_wp2_with (fail)
        go_ret
        exact ⟨by simp, bl_call hb1 hb2⟩
end Go.Proofs.Yteoajadcdjaalaa
