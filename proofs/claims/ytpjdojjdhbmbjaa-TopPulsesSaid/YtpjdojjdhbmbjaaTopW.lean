/- The walk of the statement on all of layer 1. -/
import Derived.Test.YtpjdojjdhbmbjaaTopM
import Derived.Test.YtpjdojjdhbmbjaaKnown
import Derived.BigQuiet
namespace Go.Proofs.Ytpjdojjdhbmbjaa
open Go.RowKit

theorem top_k1 (w : World) : Calls Try.prog 30 #[.slice (some ⟨w.heap.size, 0, none⟩) 4 4] (w.alloc (.cells #[.int .i64 1, .int .i64 1, .int .i64 1, .int .i64 1] 3)) fun e w' => ∃ A' c, e = .returned (.tuple #[.slice A' 3 c, .int .i64 0]) ∧ Rd w' A' (ints [1, 2, 3]) ∧ Below w.heap.size w w' :=
  (closed_c _ [1, 1, 1, 1] 4 _ (by simp) (rd_new w [1, 1, 1, 1])).mono fun e w' ⟨A', c, he, hr, hb⟩ => ⟨A', c, by rw [he, known_closed.1, known_closed.2]; rfl, by rw [known_closed.1] at hr; exact hr, bl_call (bl_alloc (Below.refl _ _) _) hb⟩
theorem top_k2 (w : World) (A : Option Addr) (c : Nat) (hr : Rd w A (ints [1, 2, 3])) : Calls Try.prog 34 #[.slice A 3 c, .slice (some ⟨w.heap.size, 0, none⟩) 3 3] (w.alloc (.cells #[.int .i64 1, .int .i64 2, .int .i64 3] 3)) fun e w' => e = .returned (.bool true) ∧ Below w.heap.size w w' :=
  (sameInts_c A _ [1, 2, 3] [1, 2, 3] c 3 _ (by simp) (hr.later (bl_alloc (Below.refl _ _) _)) (rd_new w [1, 2, 3])).mono fun e w' ⟨he, hb⟩ => ⟨by rw [he, decide_eq_true rfl], bl_call (bl_alloc (Below.refl _ _) _) hb⟩

set_option maxRecDepth 100000 in
set_option maxHeartbeats 8000000 in
theorem topPulses_walk (A : Option Addr) (p : List Int) (cap : Nat) (B : Option Addr) (q : List Int) (cap' : Nat) (C : Option Addr) (l : List Int) (cap3 : Nat) (a n f : Int) (w : World) (hr : Rd w A (ints p)) (hs : Rd w B (ints q)) (hm : Rd w C (ints l))
    (_ha : (Lit.int .i64 a).wf = true) (_hn : (Lit.int .i64 n).wf = true) (_hf : (Lit.int .i64 f).wf = true) :
    Calls Try.prog 16 #[.slice A p.length cap, .slice B q.length cap', .agg #[.slice C l.length cap3, .int .i64 a, .int .i64 n, .int .i64 f]] w fun e w' => e = .returned (.bool true) ∧ Below w.heap.size w w' := by
  have x0 := Bx.new w 59 #[.slice C l.length cap3, .int .i64 a, .int .i64 n, .int .i64 f]
  have hb0 : Below w.heap.size w (w.alloc (.cells #[.slice C l.length cap3, .int .i64 a, .int .i64 n, .int .i64 f] 59)) := bl_alloc (Below.refl _ _) _
  have HK1 := fun w => Lib.hid (top_k1 w)
  have HK2 := fun w A c h => Lib.hid (top_k2 w A c h)
  go_enter Try.func16, Try.ntmps16
  go_wp2_with (fail)
  have hk1 := (HK1 (w.alloc (.cells #[.slice C l.length cap3, .int .i64 a, .int .i64 n, .int .i64 f] 59))).out
  simp only [World.size_alloc] at hk1
  refine hk1.mono ?_
  rintro e w1 ⟨A1, c1, rfl, hr1, hb1⟩
  replace hb1 : Below (w.alloc (.cells #[.slice C l.length cap3, .int .i64 a, .int .i64 n, .int .i64 f] 59)).heap.size (w.alloc (.cells #[.slice C l.length cap3, .int .i64 a, .int .i64 n, .int .i64 f] 59)) w1 := by rw [World.size_alloc]; exact hb1
  clear hk1
  go_wp2_with (fail)
  refine (HK2 w1 A1 c1 hr1).out.mono ?_
  rintro e w2 ⟨rfl, hb2⟩
  have hw2 := bl_call (bl_call hb0 hb1) hb2
  replace x0 := (x0.call hb1).call hb2
  clear HK1 HK2 hr1 hb0 hb1 hb2
  by_cases h1 : 100 < p.length
  · have h1' : decide (100 < p.length) = true := by simpa using h1
    go_wp2_with (go_at_call 17; refine (long_c _ _ _ _).mono ?_; rintro e w' ⟨rfl, rfl⟩)
    go_ret
    exact ⟨rfl, hw2⟩
  have h1' : decide (100 < p.length) = false := by simpa using h1
  by_cases h2 : 100 < q.length
  · have h2' : decide (100 < q.length) = true := by simpa using h2
    go_wp2_with (go_at_call 17; refine (long_c _ _ _ _).mono ?_; rintro e w' ⟨rfl, rfl⟩)
    go_ret
    exact ⟨rfl, hw2⟩
  have h2' : decide (100 < q.length) = false := by simpa using h2
  have hx0 := x0.cell 0
  have hx1 := x0.cell 1
  have hx2 := x0.cell 2
  have hx3 := x0.cell 3
  simp only [List.getElem?_toArray, List.getElem?_cons_zero, List.getElem?_cons_succ] at hx0 hx1 hx2 hx3
  by_cases h3 : 100 < l.length
  · have h3' : decide (100 < l.length) = true := by simpa using h3
    go_wp2_with (go_at_call 17; refine (long_c _ _ _ _).mono ?_; rintro e w' ⟨rfl, rfl⟩)
    go_ret
    exact ⟨rfl, hw2⟩
  have h3' : decide (100 < l.length) = false := by simpa using h3
  have HC := fun w1 (hb : Below w.heap.size w w1) => Lib.hid (closed_c A p cap w1 (by omega) (hr.later hb))
  have HV := fun w1 (hb : Below w.heap.size w w1) => Lib.hid (validate_c A p cap w1 (hr.later hb))
  by_cases hv : validE p = 0
  · have HBk := fun w1 (hb : Below w.heap.size w w1) => Lib.hid (back_c A p cap w1 (hr.later hb))
    unfold BackOut at HBk
    obtain ⟨hbv, hbc, _, _⟩ := back_facts 0 hv
    have hbl := backL_len p
    have HT1 : Hid (∀ k : Nat, k < 4 → _) := fun k hk => top_one hv hk
    have HM : Hid (∀ k : Nat, k < 4 → decide ((k : Int) ∈ modesG p (closedB p)) = closedB p k) := fun k hk => mem_modesT hv hk
    have HMq : Hid (validE q = 0 → ∀ k : Nat, k < 4 → decide ((k : Int) ∈ modesG q (closedB q)) = closedB q k) := fun h k hk => mem_modesT h hk
    have HMj : Hid (validE (joL p q) = 0 → ∀ k : Nat, k < 4 → decide ((k : Int) ∈ modesG (joL p q) (closedB (joL p q))) = closedB (joL p q) k) := fun h k hk => mem_modesT h hk
    have HT2 : Hid (joE p q = 0 → ∀ k : Nat, k < 4 → _) := fun h k hk => top_two h hk
    have HJ := fun w1 (hb : Below w.heap.size w w1) => Lib.hid (join_c A B p q cap cap' w1 (hr.later hb) (hs.later hb))
    unfold TwoOut at HJ
    have HQ := fun w1 (hb : Below w.heap.size w w1) => Lib.hid (closed_c B q cap' w1 (by omega) (hs.later hb))
    have HJE : Hid (joE p q = 0 → validE q = 0) := fun h => (jo_at h).2.1
    have hjl := joL_len p q
    have hm1 := modesG_4 p (closedB p)
    have hm2 := modesG_4 q (closedB q)
    have hm3 := modesG_4 (joL p q) (closedB (joL p q))
    have HCb := fun w1 A1 c1 (h : Rd w1 A1 (ints (backL p))) => Lib.hid (closed_c A1 (backL p) c1 w1 (by omega) h)
    rw [hbv, hbc] at HCb
    rw [hv] at HC HBk
    clear hbv hbc HV hv
    generalize modesG p (closedB p) = CP at HC HCb HM hm1
    generalize modesG q (closedB q) = CQ at HQ HMq hm2
    go_wp2_with (go_at_call 17; refine (long_c _ _ _ _).mono ?_; rintro e w' ⟨rfl, rfl⟩)
    refine (HC _ hw2).out.mono ?_
    rintro e w3 ⟨A3, c3, rfl, hr3, hb3⟩
    have hw3 := bl_call hw2 hb3
    replace x0 := x0.call hb3
    clear HC hx0 hx1 hx2 hx3 hw2
    go_wp2_with (fail)
    refine (HBk _ hw3).out.mono ?_
    rintro e w4 ⟨A4, c4, rfl, hown4, hb4⟩
    have hr4 := (own_rd hown4).1
    have hw4 := bl_call hw3 hb4
    replace x0 := x0.call hb4
    replace hr3 := hr3.later hb4
    clear HBk hown4
    go_wp2_with (fail)
    refine (HCb _ A4 c4 hr4).out.mono ?_
    rintro e w5 ⟨A5, c5, rfl, hr5, hb5⟩
    have hw5 := bl_call hw4 hb5
    replace x0 := x0.call hb5
    replace hr3 := hr3.later hb5
    replace hr4 := hr4.later hb5
    clear HCb
    go_wp2_with (fail)
    refine (sameInts_c A5 A3 CP CP c5 c3 w5 (by omega) hr5 hr3).mono ?_
    rintro e w6 ⟨rfl, hb6⟩
    rw [decide_eq_true rfl]
    have hw6 := bl_call hw5 hb6
    replace x0 := x0.call hb6
    replace hr3 := hr3.later hb6
    replace hr4 := hr4.later hb6
    clear hr5
    go_wp2_with (fail)
    refine (HJ _ hw6).out.mono ?_
    rintro e w7 ⟨A7, c7, rfl, hr7, hb7⟩
    have hw7 := bl_call hw6 hb7
    replace x0 := x0.call hb7
    replace hr3 := hr3.later hb7
    replace hr4 := hr4.later hb7
    clear HJ
    go_wp2_with (fail)
    refine (HQ _ hw7).out.mono ?_
    rintro e w8 ⟨A8, c8, rfl, hr8, hb8⟩
    have hw8 := bl_call hw7 hb8
    replace x0 := x0.call hb8
    replace hr3 := hr3.later hb8
    replace hr4 := hr4.later hb8
    replace hr7 := hr7.later hb8
    clear HQ hb3 hb4 hb5 hb6 hb7 hb8 hw3 hw4 hw5 hw6 hw7
    have HXP := fun (k : Nat) w1 (hb : Below w.heap.size w w1) => Lib.hid (path_c A p cap k w1 (by omega) (hr.later hb))
    have HXE := fun (k : Nat) w1 (hb : Below w.heap.size w w1) => Lib.hid (end_c A p cap k w1 (by omega) (hr.later hb))
    have HXA := fun (k : Nat) w1 (hb : Below w.heap.size w w1) => Lib.hid (area_c A p cap k w1 (by omega) (hr.later hb))
    have HXB := fun (k : Nat) w1 (h : Rd w1 A4 (ints (backL p))) => Lib.hid (area_c A4 (backL p) c4 k w1 (by omega) h)
    have HXQ := fun (k : Nat) w1 (hb : Below w.heap.size w w1) => Lib.hid (area_c B q cap' k w1 (by omega) (hs.later hb))
    have HXJ := fun (k : Nat) w1 (h : Rd w1 A7 (ints (joL p q))) => Lib.hid (area_c A7 (joL p q) c7 k w1 (by omega) h)
    have HXC := fun w1 (h : Rd w1 A7 (ints (joL p q))) => Lib.hid (closed_c A7 (joL p q) c7 w1 (by omega) h)
    unfold PtOut at HXP
    generalize joE p q = E1 at HT2 HJE ⊢
    generalize validE q = E2 at HMq HJE ⊢
    go_wp2_with (fail)
    obtain ⟨wo, rfl⟩ : ∃ wo : World, wo = w8 := ⟨_, rfl⟩
    go_loopw [18] (fun kv wr => ∃ k : Nat, k ≤ 4 ∧ kv = .int .i64 k ∧ Below wo.heap.size wo wr) (fun kv _ => 4 - (intOf kv).toNat)
    case atStart => exact ⟨0, by omega, rfl, Below.refl _ _⟩
    case round =>
      obtain ⟨k, hk, rfl, hb⟩ := hrel
      by_cases hlt : k < 4
      · have hbw := bl_call hw8 hb
        obtain ⟨ti, tl, tg, te, tb, ta⟩ := HT1.out k hlt
        have hmk := HM.out k hlt
        have gP := HXP k
        have gE := HXE k
        have gA := HXA k
        have gB := HXB k
        have gQ := HXQ k
        have gJ := HXJ k
        have gM := Lib.hid (fun h => HMq.out h k hlt)
        have gMj := Lib.hid (fun h => HMj.out h k hlt)
        have gT := Lib.hid (fun h => HT2.out h k hlt)
        rw [ti] at gP gE gA
        rw [tb, ta] at gB
        clear HXP HXE HXA HXB HXQ HXJ HMq HMj HT2 HT1 HM ti tb ta x0
        generalize pathG p k = L at gP tl tg
        generalize endG p k = ep at gE tg
        generalize areaG p k = a1 at gA gB te gT
        generalize areaG q k = a2 at gQ gT
        generalize areaG (joL p q) k = a3 at gJ gT
        generalize inE q k = i2 at gQ gT
        generalize inE (joL p q) k = i3 at gJ gT
        generalize closedB p k = o1 at hmk gT
        generalize closedB q k = o2 at gM gT
        generalize closedB (joL p q) k = o3 at gMj gT
        have TL := Lib.hid tl
        clear tl
        go_wp2_with (fail)
        refine (gP _ hbw).out.mono ?_
        rintro e w11 ⟨A11, c11, rfl, hr11, hb11⟩
        have hw11 := bl_call hbw hb11
        clear gP
        go_wp2_with (fail)
        refine (gE _ hw11).out.mono ?_
        rintro e w12 ⟨u, v, rfl, huv, hb12⟩
        have ha12 := bl_alloc hb12 (.cells #[.int .i64 u, .int .i64 v] 30)
        have x12 := Bx.new w12 30 #[.int .i64 u, .int .i64 v]
        have hw12 := bl_call hw11 ha12
        replace hr11 := hr11.later ha12
        subst huv
        clear gE
        go_wp2_with (fail)
        refine (gA _ hw12).out.mono ?_
        rintro e w13 ⟨rfl, hb13⟩
        have hw13 := bl_call hw12 hb13
        replace hr11 := hr11.later hb13
        replace x12 := x12.call hb13
        clear gA
        have hbo : Below wo.heap.size wo w13 := ((hb.trans (hb11.mono hb.size)).trans (ha12.mono (Nat.le_trans hb.size hb11.size))).trans (hb13.mono (by have h1 := hb.size; have h2 := hb11.size; have h3 := ha12.size; omega))
        go_wp2_with (fail)
        refine (gB _ (hr4.later hbo)).out.mono ?_
        rintro e w14 ⟨rfl, hb14⟩
        have hw14 := bl_call hw13 hb14
        replace hr11 := hr11.later hb14
        replace x12 := x12.call hb14
        replace hbo := hbo.trans (hb14.mono hbo.size)
        clear gB hb11 hb12 ha12 hb13 hb14 hw11 hw12 hw13 hbw
        obtain ⟨b, o, rfl, hbl, hc⟩ := hr11.at_ (k := p.length * 2) (by simp [TL.out])
        obtain ⟨g1, g2⟩ := cellsP_get L p.length (by rw [TL.out]; omega)
        rw [tg] at g1 g2
        have hc1 := hc _ _ g1
        have hc2 := hc _ _ g2
        rw [← Nat.add_assoc] at hc2
        obtain ⟨j1, j2, j3, j4⟩ := x12.two
        have hl12 := x12.lt
        have hLl : ((L.length : Int) != (p.length : Int) + 1) = false := by rw [TL.out]; simp
        have hLi : p.length < L.length := by rw [TL.out]; omega
        clear hc g1 g2 tg hr11 x12
        generalize w12.heap.size = g12 at *
        have HPOST : Hid (∀ (nq : Nat), Below w.heap.size w (w14.drewN nq) ∧ Below wo.heap.size wo (w14.drewN nq)) := fun nq => ⟨below_drewN hw14 nq, below_drewN hbo nq⟩
        have hcases : (a1 = 0 ∧ (k : Int).tmod 2 = 0) ∨ (k : Int).tmod 2 = 1 := by
          rw [Int.tmod_eq_emod_of_nonneg (by omega)]
          by_cases hev : k % 2 = 0
          · exact .inl ⟨te hev, by omega⟩
          · exact .inr (by omega)
        clear te
        rcases hcases with ⟨rfl, hmd⟩ | hmd
        all_goals
          go_wp2_with (fail)
          go_quiet (fail)
          have HBW := (HPOST.out nq).1
          have HBO := (HPOST.out nq).2
          by_cases hE : E1 = 0
          · have hE2 := HJE.out hE
            obtain ⟨rfl, rfl, hvj, hsum, hclo⟩ := gT.out hE
            have hmq := gM.out hE2
            have hmj := gMj.out hvj
            subst hE hE2
            clear gT gM gMj
            have gA2 := Lib.hid (gQ _ HBW)
            clear gQ
            go_wp2_with (fail)
            refine gA2.out.out.mono ?_
            rintro e w21 ⟨rfl, hb21⟩
            have hs14 := HBO.size
            replace HBW := bl_call HBW hb21
            replace HBO := HBO.trans (hb21.mono hs14)
            clear gA2
            have gA3 := gJ w21 (hr7.later HBO)
            clear gJ
            go_wp2_with (fail)
            refine gA3.out.mono ?_
            rintro e w22 ⟨rfl, hb22⟩
            have hs21 := HBO.size
            replace HBW := bl_call HBW hb22
            replace HBO := HBO.trans (hb22.mono hs21)
            have gH := has_c A3 CP c3 k w22 (by omega) (hr3.later HBO)
            rw [hmk] at gH
            have GH := Lib.hid gH
            have GQ := has_c A8 CQ c8 k w22 (by omega) (hr8.later HBO)
            rw [hmq] at GQ
            have GQH := Lib.hid GQ
            have GC := HXC w22 (hr7.later HBO)
            rw [hvj] at GC
            clear gH GQ gA3 hs14 hs21 hb21 hb22 HXC
            go_wp2_with (fail)
            refine GH.out.mono ?_
            rintro e w23 ⟨rfl, rfl⟩
            cases o1 with
            | true =>
              obtain rfl := hsum (by simp)
              obtain rfl := hclo rfl
              clear hsum hclo
              go_wp2_with (fail)
              refine GC.out.mono ?_
              rintro e w24 ⟨A24, c24, rfl, hr24, hb24⟩
              have hs22 := HBO.size
              replace HBO := HBO.trans (hb24.mono hs22)
              have G1 := has_c A24 _ c24 k w24 (by omega) hr24
              rw [hmj] at G1
              have G1H := Lib.hid G1
              have G2 := has_c A8 CQ c8 k w24 (by omega) (hr8.later HBO)
              rw [hmq] at G2
              have G2H := Lib.hid G2
              clear G1 G2 GC GH GQH hs22
              go_wp2_with (fail)
              refine G1H.out.mono ?_
              rintro e w25 ⟨rfl, rfl⟩
              go_wp2_with (fail)
              refine G2H.out.mono ?_
              rintro e w25 ⟨rfl, rfl⟩
              go_wp2_with (fail)
              go_roundw
              case rel => exact ⟨k + 1, by omega, by go_num, HBO⟩
              case measure => simp [intOf]; omega
            | false =>
              clear hclo
              go_wp2_with (fail)
              refine GQH.out.mono ?_
              rintro e w23 ⟨rfl, rfl⟩
              cases o2 with
              | true =>
                obtain rfl := hsum (by simp)
                clear hsum
                go_wp2_with (fail)
                refine GC.out.mono ?_
                rintro e w24 ⟨A24, c24, rfl, hr24, hb24⟩
                have hs22 := HBO.size
                replace HBO := HBO.trans (hb24.mono hs22)
                go_wp2_with (fail)
                go_roundw
                case rel => exact ⟨k + 1, by omega, by go_num, HBO⟩
                case measure => simp [intOf]; omega
              | false =>
                clear hsum
                go_wp2_with (fail)
                refine GC.out.mono ?_
                rintro e w24 ⟨A24, c24, rfl, hr24, hb24⟩
                have hs22 := HBO.size
                replace HBO := HBO.trans (hb24.mono hs22)
                go_wp2_with (fail)
                go_roundw
                case rel => exact ⟨k + 1, by omega, by go_num, HBO⟩
                case measure => simp [intOf]; omega
          · have hE' : (E1 != 0) = true := by simpa using hE
            clear gT gM gMj hE HJE
            go_wp2_with (fail)
            go_roundw
            case rel => exact ⟨k + 1, by omega, by go_num, HBO⟩
            case measure => simp [intOf]; omega
      · obtain rfl : k = 4 := by omega
        have hbw := bl_call hw8 hb
        have x1 := x0.call hb
        have hx0 := x1.cell 0
        have hx1 := x1.cell 1
        have hx2 := x1.cell 2
        have hx3 := x1.cell 3
        simp only [List.getElem?_toArray, List.getElem?_cons_zero, List.getElem?_cons_succ] at hx0 hx1 hx2 hx3
        clear HXP HXE HXA HXB HXQ HXJ HXC HMq HMj HT2 HT1 HM HJE hr3 hr4 hr7 hr8 x0
        have HFd := Lib.hid (find_c C l cap3 a n f wr (by omega) (hm.later hbw))
        have HAr := fun w1 (hb : Below w.heap.size w w1) => Lib.hid (areas_c C l cap3 n f w1 (by omega) (hm.later hb))
        unfold FindOut at HFd
        unfold AreasOut at HAr
        have hAL := areasL_len l n f
        have HFF := Lib.hid (fun q b => @find_facts l a n f q b)
        have HFC := Lib.hid (fun q b => @find_facts' l a n f q b)
        have HZ0 := Lib.hid (@areas_zero l n f)
        have HN0 := Lib.hid (fun (h : searchE l n f = 0) (h0 : decide ((0 : Int) ∈ l) = false) (h2 : decide ((2 : Int) ∈ l) = false) x (hx : x ∈ areasL l n f) => areas_neg h (of_decide_eq_false h0) (of_decide_eq_false h2) hx)
        generalize areasL l n f = AL at HAr hAL HFF HZ0 HN0
        generalize searchE l n f = E at HFd HAr HZ0 HN0
        go_wp2_with (fail)
        refine HFd.out.mono ?_
        rintro e w30 ⟨A30, c30, qf, bf, rfl, hfi, hr30, hb30⟩
        have hw30 := bl_call hbw hb30
        replace x1 := x1.call hb30
        obtain ⟨hfh, hfn, hfy⟩ := HFF.out _ _ hfi
        have HFK := Lib.hid (HFC.out _ _ hfi)
        have hx0 := x1.cell 0
        have hx1 := x1.cell 1
        have hx2 := x1.cell 2
        have hx3 := x1.cell 3
        simp only [List.getElem?_toArray, List.getElem?_cons_zero, List.getElem?_cons_succ] at hx0 hx1 hx2 hx3
        have HFY := Lib.hid hfy
        clear HFd HFF HFC hfi hfy hfn hbw
        go_wp2_with (fail)
        refine (HAr _ hw30).out.mono ?_
        rintro e w31 ⟨A31, c31, rfl, HRA, hb31⟩
        have hw31 := bl_call hw30 hb31
        replace x1 := x1.call hb31
        replace hr30 := hr30.later hb31
        have hx0 := x1.cell 0
        have hx1 := x1.cell 1
        have hx2 := x1.cell 2
        have hx3 := x1.cell 3
        simp only [List.getElem?_toArray, List.getElem?_cons_zero, List.getElem?_cons_succ] at hx0 hx1 hx2 hx3
        have GH := has_c A31 AL c31 a w31 (by omega) HRA
        rw [hfh] at GH
        have GHH := Lib.hid GH
        clear GH HAr hfh hb30 hw30
        go_wp2_with (fail)
        refine GHH.out.mono ?_
        rintro e w32 ⟨rfl, rfl⟩
        clear GHH
        by_cases hE : (E != 0) = true
        · cases bf
          all_goals
            go_wp2_with (fail)
            go_ret
            exact ⟨rfl, hw31⟩
        · have hE' : (E != 0) = false := by simpa using hE
          have hE0 : E = 0 := by simpa using hE'
          have hz := HZ0.out hE0
          have HN := Lib.hid (HN0.out hE0)
          subst hE0
          clear hE hE' HZ0 HN0
          cases bf with
          | false =>
            clear HFY HFK
            have HBW := hw31
            obtain ⟨WW, rfl⟩ : ∃ WW : World, WW = w31 := ⟨_, rfl⟩
            go_wp2_with (fail)
            have hrl := hm.later HBW
            have G0 := Lib.hid (has_c C l cap3 0 WW (by omega) hrl)
            have G2 := Lib.hid (has_c C l cap3 2 WW (by omega) hrl)
            have GZ := has_c A31 AL c31 0 WW (by omega) HRA
            rw [hz] at GZ
            have GZH := Lib.hid GZ
            have HNG : Hid (decide ((0 : Int) ∈ l) = false → decide ((2 : Int) ∈ l) = false → ∀ x ∈ AL, -x ∈ AL ∧ -1000 ≤ x ∧ x ≤ 1000) := HN.out
            clear GZ HN hz
            generalize decide ((0 : Int) ∈ l) = d0 at G0 HNG
            generalize decide ((2 : Int) ∈ l) = d2 at G2 HNG
            cases d0 with
            | true =>
              go_wp2_with (fail)
              refine G0.out.mono ?_
              rintro e w98 ⟨rfl, rfl⟩
              go_wp2_with (fail)
              refine GZH.out.mono ?_
              rintro e w99 ⟨rfl, rfl⟩
              go_wp2_with (fail)
              go_ret
              exact ⟨rfl, HBW⟩
            | false =>
              cases d2 with
              | true =>
                go_wp2_with (fail)
                refine G0.out.mono ?_
                rintro e w98 ⟨rfl, rfl⟩
                go_wp2_with (fail)
                refine G2.out.mono ?_
                rintro e w98 ⟨rfl, rfl⟩
                go_wp2_with (fail)
                refine GZH.out.mono ?_
                rintro e w99 ⟨rfl, rfl⟩
                go_wp2_with (fail)
                go_ret
                exact ⟨rfl, HBW⟩
              | false =>
                have HN1 := Lib.hid (HNG.out rfl rfl)
                clear HNG
                go_wp2_with (fail)
                refine G0.out.mono ?_
                rintro e w98 ⟨rfl, rfl⟩
                go_wp2_with (fail)
                refine G2.out.mono ?_
                rintro e w98 ⟨rfl, rfl⟩
                clear G0 G2
                go_wp2_with (fail)
                go_loop [37] (fun iv => ∃ i : Nat, i ≤ AL.length ∧ iv = .int .i64 i) (fun iv => AL.length - (intOf iv).toNat)
                case atStart => exact ⟨0, Nat.zero_le _, rfl⟩
                case round =>
                  obtain ⟨i, hi, rfl⟩ := hrel
                  by_cases hli : i < AL.length
                  · obtain ⟨b, o, rfl, _, hc⟩ := HRA.at_ (k := i) (by simpa using hli)
                    have hck := hc i _ (ints_get hli)
                    have hin : AL.getD i 0 ∈ AL := by simp only [List.getD_eq_getElem?_getD, List.getElem?_eq_getElem hli, Option.getD_some]; exact List.getElem_mem hli
                    obtain ⟨hng, hs1, hs2⟩ := HN1.out _ hin
                    generalize AL.getD i 0 = x at hck hng hs1 hs2
                    have GN := has_c (some ⟨b, o, none⟩) AL c31 (-x) WW (by omega) HRA
                    rw [decide_eq_true hng] at GN
                    have GNH := Lib.hid GN
                    clear GN hng hin hc
                    go_wp2_with (fail)
                    refine GNH.out.mono ?_
                    rintro e w97 ⟨rfl, rfl⟩
                    go_wp2_with (fail)
                    go_round
                    case rel => exact ⟨i + 1, by omega, by go_num⟩
                    case measure => simp [intOf]; omega
                  · obtain rfl : i = AL.length := by omega
                    go_wp2_with (fail)
                    refine GZH.out.mono ?_
                    rintro e w99 ⟨rfl, rfl⟩
                    go_wp2_with (fail)
                    go_ret
                    exact ⟨rfl, HBW⟩
          | true =>
            obtain ⟨hqn, hq6, _, _, _, _⟩ := HFY.out rfl
            have hck := HFK.out rfl
            have HCK := check_c A30 C qf l c30 cap3 a w31 (by omega) (by omega) hr30 (hm.later hw31)
            rw [hck] at HCK
            have HCKH := Lib.hid HCK
            subst hqn
            clear HCK hck HFY HFK
            go_wp2_with (fail)
            refine HCKH.out.mono ?_
            rintro e WW ⟨rfl, hb40⟩
            have HBW := bl_call hw31 hb40
            replace HRA := HRA.later hb40
            replace x1 := x1.call hb40
            have hx0 := x1.cell 0
            have hx1 := x1.cell 1
            have hx2 := x1.cell 2
            have hx3 := x1.cell 3
            simp only [List.getElem?_toArray, List.getElem?_cons_zero, List.getElem?_cons_succ] at hx0 hx1 hx2 hx3
            clear HCKH hr30
            go_wp2_with (fail)
            have hrl := hm.later HBW
            have G0 := Lib.hid (has_c C l cap3 0 WW (by omega) hrl)
            have G2 := Lib.hid (has_c C l cap3 2 WW (by omega) hrl)
            have GZ := has_c A31 AL c31 0 WW (by omega) HRA
            rw [hz] at GZ
            have GZH := Lib.hid GZ
            have HNG : Hid (decide ((0 : Int) ∈ l) = false → decide ((2 : Int) ∈ l) = false → ∀ x ∈ AL, -x ∈ AL ∧ -1000 ≤ x ∧ x ≤ 1000) := HN.out
            clear GZ HN hz
            generalize decide ((0 : Int) ∈ l) = d0 at G0 HNG
            generalize decide ((2 : Int) ∈ l) = d2 at G2 HNG
            cases d0 with
            | true =>
              go_wp2_with (fail)
              refine G0.out.mono ?_
              rintro e w98 ⟨rfl, rfl⟩
              go_wp2_with (fail)
              refine GZH.out.mono ?_
              rintro e w99 ⟨rfl, rfl⟩
              go_wp2_with (fail)
              go_ret
              exact ⟨rfl, HBW⟩
            | false =>
              cases d2 with
              | true =>
                go_wp2_with (fail)
                refine G0.out.mono ?_
                rintro e w98 ⟨rfl, rfl⟩
                go_wp2_with (fail)
                refine G2.out.mono ?_
                rintro e w98 ⟨rfl, rfl⟩
                go_wp2_with (fail)
                refine GZH.out.mono ?_
                rintro e w99 ⟨rfl, rfl⟩
                go_wp2_with (fail)
                go_ret
                exact ⟨rfl, HBW⟩
              | false =>
                have HN1 := Lib.hid (HNG.out rfl rfl)
                clear HNG
                go_wp2_with (fail)
                refine G0.out.mono ?_
                rintro e w98 ⟨rfl, rfl⟩
                go_wp2_with (fail)
                refine G2.out.mono ?_
                rintro e w98 ⟨rfl, rfl⟩
                clear G0 G2
                go_wp2_with (fail)
                go_loop [37] (fun iv => ∃ i : Nat, i ≤ AL.length ∧ iv = .int .i64 i) (fun iv => AL.length - (intOf iv).toNat)
                case atStart => exact ⟨0, Nat.zero_le _, rfl⟩
                case round =>
                  obtain ⟨i, hi, rfl⟩ := hrel
                  by_cases hli : i < AL.length
                  · obtain ⟨b, o, rfl, _, hc⟩ := HRA.at_ (k := i) (by simpa using hli)
                    have hck := hc i _ (ints_get hli)
                    have hin : AL.getD i 0 ∈ AL := by simp only [List.getD_eq_getElem?_getD, List.getElem?_eq_getElem hli, Option.getD_some]; exact List.getElem_mem hli
                    obtain ⟨hng, hs1, hs2⟩ := HN1.out _ hin
                    generalize AL.getD i 0 = x at hck hng hs1 hs2
                    have GN := has_c (some ⟨b, o, none⟩) AL c31 (-x) WW (by omega) HRA
                    rw [decide_eq_true hng] at GN
                    have GNH := Lib.hid GN
                    clear GN hng hin hc
                    go_wp2_with (fail)
                    refine GNH.out.mono ?_
                    rintro e w97 ⟨rfl, rfl⟩
                    go_wp2_with (fail)
                    go_round
                    case rel => exact ⟨i + 1, by omega, by go_num⟩
                    case measure => simp [intOf]; omega
                  · obtain rfl : i = AL.length := by omega
                    go_wp2_with (fail)
                    refine GZH.out.mono ?_
                    rintro e w99 ⟨rfl, rfl⟩
                    go_wp2_with (fail)
                    go_ret
                    exact ⟨rfl, HBW⟩
  · have hL : modesG p (closedB p) = [] := by rw [modesG, if_neg hv]
    have hv' : (validE p != 0) = true := by simpa using hv
    rw [hL] at HC
    generalize validE p = E at HC HV hv'
    go_wp2_with (go_at_call 17; refine (long_c _ _ _ _).mono ?_; rintro e w' ⟨rfl, rfl⟩)
    refine (HC _ hw2).out.mono ?_
    rintro e w3 ⟨A3, c3, rfl, _, hb3⟩
    have hw3 := bl_call hw2 hb3
    have hv1 := (HV _ hw3)
    clear HC HV
    go_wp2_with (fail)
    refine hv1.out.mono ?_
    rintro e w4 ⟨rfl, rfl⟩
    go_wp2_with (fail)
    go_ret
    exact ⟨ret_b (by simp), hw3⟩
end Go.Proofs.Ytpjdojjdhbmbjaa
