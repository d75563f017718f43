/- The walk of the law on the way over a third place. -/
import Derived.Test.YtjgpfnnokdcgoaaKnownZ
import Derived.Test.YtjgpfnnokdcgoaaPathT
import Derived.Test.YtjgpfnnokdcgoaaMovesW
import Derived.Deep.CutRange
namespace Go.Proofs.Ytjgpfnnokdcgoaa
open Go.RowKit Go.Maps

theorem over_facts {Z : Int} {l : List (Int × Int)} {p q : List Int} {a : Nd} (hb : bothE Z l p q = 0) (ha : arrG Z l p q = some a) {m : Int × Int} (hm : m ∈ movesG Z l q) :
    planG Z l q [m] = (nx q m, 1, 0) ∧ bothE Z l p (nx q m) = 0 ∧ ∃ b, arrG Z l p (nx q m) = some b ∧ b.2.length ≤ a.2.length + 1 ∧ a.2.length ≤ b.2.length + 1 ∧ b.2.length < 360 := by
  obtain ⟨hp, hq, hl⟩ := bothE_zero hb
  obtain ⟨ht, hp4, _, _⟩ := placeE_zero hp
  obtain ⟨n, rfl, _, h6⟩ := trap_nat ht
  have hvp := placeE_v hp
  have hvq := placeE_v hq
  have hme : moveE l n q m = 0 := by
    rw [movesG, if_pos hq] at hm
    exact mem_mvZ.1 (by simpa using hm)
  have hG : planG n l q [m] = (nx q m, 1, 0) := by
    rw [planG, if_pos hq, if_pos (by simp), planR, if_pos hme, planR]
  have hv2 := hvq.step hme
  have hE : placeE n l (nx q m) = 0 := placeE_of ht (by simp; omega) hv2
  have hB : bothE n l p (nx q m) = 0 := by rw [bothE, if_pos hp, if_pos hE, if_pos (by simp [hl])]
  have e1 : ∀ x, bothE n l p x = 0 → arrG n l p x = findL (reachL l n p) x := fun x hx => by rw [arrG, if_pos hx]; simp
  rw [e1 q hb] at ha
  obtain ⟨h1, h2, _⟩ := (find_short hvp h6 hp4).1 a ha
  obtain ⟨b, hb1, hb2⟩ := find_of_path hvp h6 hp4 (Path.cons h1 (mem_mvZ.2 hme))
  obtain ⟨h3, h4, h5⟩ := (find_short hvp h6 hp4).1 b hb1
  obtain ⟨c1, c2⟩ := move_back hvq hme
  have h7 := Path.cons h3 (mem_mvZ.2 c1)
  rw [c2] at h7
  have h8 := h2 _ h7
  exact ⟨hG, hB, b, by rw [e1 _ hB]; exact hb1, by simpa using hb2, by simpa using h8, h5⟩
theorem far_small {Z : Int} {l : List (Int × Int)} {p q : List Int} {a : Nd} (ha : arrG Z l p q = some a) : a.2.length < 360 := by
  rw [arrG] at ha
  by_cases hb : bothE Z l p q = 0
  · rw [if_pos hb] at ha
    obtain ⟨hp, _, _⟩ := bothE_zero hb
    obtain ⟨ht, hp4, _, _⟩ := placeE_zero hp
    obtain ⟨n, rfl, _, h6⟩ := trap_nat ht
    exact ((find_short (placeE_v hp) h6 hp4).1 a (by simpa using ha)).2.2
  · rw [if_neg hb] at ha; exact absurd ha (by simp)

set_option maxRecDepth 100000 in
set_option maxHeartbeats 4000000 in
theorem zoneOver_walk (Z : Int) (A : Option Addr) (l : List (Int × Int)) (c : Nat) (B : Option Addr) (p : List Int) (d : Nat) (C : Option Addr) (q : List Int) (f : Nat) (w : World) (_hcap : l.length ≤ c) (_hcap' : p.length ≤ d) (_hcap2 : q.length ≤ f) (hr : Rd w A (cellsP l)) (hs : Rd w B (ints p)) (hs2 : Rd w C (ints q)) :
    Calls Try.prog 13 #[trapV Z A l.length c, .slice B p.length d, .slice C q.length f] w fun e w' => e = .returned (.bool true) ∧ Below w.heap.size w w' := by
  have HL := fun w => Lib.hid (long_c Z A l.length c w)
  have HM := fun w => Lib.hid (many_c B p.length d w)
  have HM2 := fun w => Lib.hid (many_c C q.length f w)
  have HK := fun w => Lib.hid (known_c w)
  have x0 := Bx.new w 24 #[.int .i64 Z, .slice A l.length c]
  have hb0 := bl_alloc (Below.refl w.heap.size w) (.cells #[.int .i64 Z, .slice A l.length c] 24)
  generalize hw0 : w.alloc (.cells #[.int .i64 Z, .slice A l.length c] 24) = w0 at *
  obtain ⟨c0, c1, _⟩ := x0.two
  by_cases hlong : 60 < l.length
  · rw [decide_eq_true hlong] at HL
    go_enter Try.func13, Try.ntmps13
    go_wp2_with (fail)
    refine (HL _).out.mono ?_
    rintro e w1 ⟨rfl, hb1⟩
    go_wp2_with (fail)
    refine (HK _).out.mono ?_
    rintro e w2 ⟨rfl, hb2⟩
    go_wp2_with (fail)
    go_ret
    exact ⟨rfl, bl_call hb0 (bl_call hb1 hb2)⟩
  · rw [decide_eq_false hlong] at HL
    by_cases hmany : 40 < p.length
    · rw [decide_eq_true hmany] at HM
      go_enter Try.func13, Try.ntmps13
      go_wp2_with (fail)
      refine (HL _).out.mono ?_
      rintro e w1 ⟨rfl, hb1⟩
      go_wp2_with (fail)
      refine (HM _).out.mono ?_
      rintro e w2 ⟨rfl, rfl⟩
      go_wp2_with (fail)
      refine (HK _).out.mono ?_
      rintro e w2 ⟨rfl, hb2⟩
      go_wp2_with (fail)
      go_ret
      exact ⟨rfl, bl_call hb0 (bl_call hb1 hb2)⟩
    · rw [decide_eq_false hmany] at HM
      by_cases hmany2 : 40 < q.length
      · rw [decide_eq_true hmany2] at HM2
        go_enter Try.func13, Try.ntmps13
        go_wp2_with (fail)
        refine (HL _).out.mono ?_
        rintro e w1 ⟨rfl, hb1⟩
        go_wp2_with (fail)
        refine (HM _).out.mono ?_
        rintro e w2 ⟨rfl, rfl⟩
        go_wp2_with (fail)
        refine (HM2 _).out.mono ?_
        rintro e w2 ⟨rfl, rfl⟩
        go_wp2_with (fail)
        refine (HK _).out.mono ?_
        rintro e w2 ⟨rfl, hb2⟩
        go_wp2_with (fail)
        go_ret
        exact ⟨rfl, bl_call hb0 (bl_call hb1 hb2)⟩
      · rw [decide_eq_false hmany2] at HM2
        have hlen : l.length ≤ 1000 := by omega
        have hlen' : p.length ≤ 1000 := by omega
        have hlen2 : q.length ≤ 1000 := by omega
        have H1 := fun w1 hr1 hs1 hm1 => Lib.hid (Far_c Z A B C l p q c d f w1 hlen hlen' hlen2 hr1 hs1 hm1)
        have H2 := fun w1 hr1 hs1 => Lib.hid (Moves_c Z A C l q c f w1 hlen hlen2 hr1 hs1)
        have H3 := fun X (x : Int × Int) w1 hr1 hs1 hm1 => Lib.hid (CheckPlan_c Z A C X l q [x] c f 1 w1 hlen hlen2 (by simp) hr1 hs1 hm1)
        have H4 := fun X (x : List Int) y w1 (hx : x.length ≤ 1000) hr1 hs1 hm1 => Lib.hid (Far_c Z A B X l p x c d y w1 hlen hlen' hx hr1 hs1 hm1)
        have HMl := movesG_len Z l q
        have HOV := fun hb (a : Nd) ha m hm => @over_facts Z l p q a hb ha m hm
        have HAL : ∀ a, arrG Z l p q = some a → a.2.length < 360 := fun a h => far_small h
        have HQ2 : bothE Z l p q = 0 → placeE Z l q = 0 := fun h => (bothE_zero h).2.1
        clear hlong hmany hmany2
        generalize bothE Z l p q = e1 at *
        generalize arrG Z l p q = o at *
        go_enter Try.func13, Try.ntmps13
        go_wp2_with (fail)
        refine (HL _).out.mono ?_
        rintro e w1 ⟨rfl, hb1⟩
        go_wp2_with (fail)
        refine (HM _).out.mono ?_
        rintro e w2 ⟨rfl, rfl⟩
        go_wp2_with (fail)
        refine (HM2 _).out.mono ?_
        rintro e w2 ⟨rfl, rfl⟩
        have y1 := x0.call hb1
        have hb01 := bl_call hb0 hb1
        clear c0 c1
        obtain ⟨c0, c1, _⟩ := y1.two
        go_wp2_with (fail)
        refine (H1 _ (hr.later hb01) (hs.later hb01) (hs2.later hb01)).out.mono ?_
        rintro e w2 ⟨rfl, hb2⟩
        have hb02 := bl_call hb01 hb2
        have y2 := y1.call hb2
        clear c0 c1
        obtain ⟨c0, c1, _⟩ := y2.two
        by_cases he : e1 = 0
        · subst he
          cases o with
          | none =>
            go_wp2_with (fail)
            refine (HK _).out.mono ?_
            rintro e w3 ⟨rfl, hb3⟩
            go_wp2_with (fail)
            go_ret
            exact ⟨rfl, bl_call hb02 hb3⟩
          | some a =>
            have HO2 := HOV rfl a rfl
            have hal := HAL a rfl
            rw [HQ2 rfl] at H2
            clear HOV HQ2 HAL H1
            generalize movesG Z l q = M at *
            go_wp2_with (fail)
            refine (H2 _ (hr.later hb02) (hs2.later hb02)).out.mono ?_
            rintro e w3 ⟨A4, c4, rfl, ho4, hb3⟩
            have hb03 := bl_call hb02 hb3
            have y3 := y2.call hb3
            clear c0 c1
            have hm4 := (own_rd ho4).1
            go_wp2_with (fail)
            go_loopg [12] (min M.length 4) (fun gk iv wr => ∃ k : Nat, Hid (k + gk = min M.length 4) ∧ iv = .int .i64 (k : Int) ∧ Below w3.heap.size w3 wr)
            case atStart => exact ⟨0, by simp [Hid], rfl, Below.refl _ _⟩
            case round =>
              obtain ⟨k, HKK, rfl, hb⟩ := hrel
              have hb0r := bl_call hb03 hb
              rcases gk with _ | gi
              · by_cases hkM : (k : Int) < (M.length : Int)
                · have hk4 : ¬ (k : Int) < 4 := by have h := HKK.out; omega
                  go_wp2_with (fail)
                  refine (HK _).out.mono ?_
                  rintro e w4 ⟨rfl, hb4⟩
                  go_wp2_with (fail)
                  go_ret
                  exact ⟨rfl, bl_call hb0r hb4⟩
                · go_wp2_with (fail)
                  refine (HK _).out.mono ?_
                  rintro e w4 ⟨rfl, hb4⟩
                  go_wp2_with (fail)
                  go_ret
                  exact ⟨rfl, bl_call hb0r hb4⟩
              · have hkl : k < M.length := by have h := HKK.out; omega
                have hkl' : (k : Int) < (M.length : Int) := by omega
                have hk4 : (k : Int) < 4 := by have h := HKK.out; omega
                obtain ⟨bm, om, rfl, hbml, d0, d1⟩ := (hm4.later hb).pair hkl
                obtain ⟨g1, g2, b, g3, g4, g5, g6⟩ := HO2 (M.getD k (0, 0)) (by simp [hkl])
                have hxl : (nx q (M.getD k (0, 0))).length ≤ 1000 := by simpa [nx] using hlen2
                generalize M.getD k (0, 0) = m at *
                obtain ⟨mi, mt⟩ := m
                simp only [] at d0 d1
                generalize nx q (mi, mt) = x at *
                have yr := (y3.call hb)
                obtain ⟨c0, c1, _⟩ := yr.two
                have hyl := yr.lt
                have hbA : Below wr.heap.size wr ((wr.alloc (.cells #[.int .i64 mi, .int .i64 mt] 54)).drew) := (bl_alloc (Below.refl _ _) _).drew
                have xA : Rd ((wr.alloc (.cells #[.int .i64 mi, .int .i64 mt] 54)).drew) (some ⟨wr.heap.size, 0, none⟩) (cellsP [(mi, mt)]) := Bx.rd (cs := cellsP [(mi, mt)]) (Bx.new wr _ _)
                have HC3 := (H3 (some ⟨wr.heap.size, 0, none⟩) (mi, mt) _ (hr.later (bl_call hb0r hbA)) (hs2.later (bl_call hb0r hbA)) xA).out
                unfold OutP at HC3
                rw [g1] at HC3
                simp only [] at HC3
                have HC4 := Lib.hid HC3
                have HF4 := fun X y w1 h h' h'' => H4 X x y w1 hxl h h' h''
                rw [g2, g3] at HF4
                clear HC3 H3 H4 HO2 g1 g2 g3
                have hva : farV (some a) = (a.2.length : Int) := rfl
                have hvb : farV (some b) = (b.2.length : Int) := rfl
                have hq1 : ¬ farV (some b) > farV (some a) + 1 := by rw [hva, hvb]; omega
                have hq2 : ¬ farV (some a) > farV (some b) + 1 := by rw [hva, hvb]; omega
                have hw1 : IntKind.i64.wrap (farV (some a) + 1) = farV (some a) + 1 := by rw [hva]; simp [IntKind.wrap, IntKind.bits, IntKind.signed]; omega
                have hw2 : IntKind.i64.wrap (farV (some b) + 1) = farV (some b) + 1 := by rw [hvb]; simp [IntKind.wrap, IntKind.bits, IntKind.signed]; omega
                clear hva hvb
                generalize farV (some a) = va at *
                generalize farV (some b) = vb at *
                go_wp2_with (fail)
                go_cut [13, 14, 15] from 51 to 102 (fun s13 s14 s15 wc => ∃ A' c', s13 = .slice A' x.length c' ∧ s14 = .int .i64 1 ∧ s15 = .int .i64 0 ∧ wc.ownsRow wr.heap.size 3 1 (.slice A' x.length c') x.length (ints x) ∧ Below wr.heap.size wr wc)
                case first =>
                  go_region_with (go_at_call 32; refine HC4.out.mono ?_; rintro e w5 ⟨A', c', rfl, ho5, hb5⟩)
                  all_goals
                    go_wp2_with (fail)
                    go_meet
                    exact ⟨_, _, rfl, rfl, rfl, own_base ho5 hbA.size, bl_call hbA hb5⟩
                obtain ⟨A', c', rfl, rfl, rfl, ho5, hb5⟩ := hcut
                have hb35 := bl_call hb hb5
                have hb05 := bl_call hb0r hb5
                clear c0 c1
                obtain ⟨c0, c1, _⟩ := (yr.call hb5).two
                go_wp2_with (fail)
                refine (HF4 _ _ _ (hr.later hb05) (hs.later hb05) (own_rd ho5).1).out.mono ?_
                rintro e w6 ⟨rfl, hb6⟩
                go_wp2_with (fail)
                go_roundg gi
                case rel => exact ⟨k + 1, by have h := HKK.out; show _ = _; omega, by go_num, bl_call hb35 hb6⟩
                case measure => omega
        · clear HOV
          go_wp2_with (fail)
          refine (HK _).out.mono ?_
          rintro e w3 ⟨rfl, hb3⟩
          go_wp2_with (fail)
          go_ret
          exact ⟨rfl, bl_call hb02 hb3⟩
end Go.Proofs.Ytjgpfnnokdcgoaa
