/- The arrival at a place, or none. -/
import Derived.Test.YtjgpfnnokdcgoaaReach
namespace Go.Proofs.Ytjgpfnnokdcgoaa
open Go.RowKit Go.Maps

/-- The first arrival at a place. -/
def findL (L : List Nd) (q : List Int) : Option Nd := L.find? fun x => decide (x.1 = q)
theorem findL_none {L : List Nd} {q : List Int} (h : ∀ x ∈ L, x.1 ≠ q) : findL L q = none := by
  rw [findL, List.find?_eq_none]
  intro x hx
  simpa using h x hx
theorem findL_at {L T : List Nd} {a : Nd} {q : List Int} (h : ∀ x ∈ L, x.1 ≠ q) (ha : a.1 = q) : findL (L ++ a :: T) q = some a := by
  have h1 := findL_none h
  rw [findL] at h1 ⊢
  rw [List.find?_append, h1]
  simp [ha]
/-- What a call that looks for a place returns. -/
def OutF (L : List Nd) (q : List Int) (w : World) (e : Ending) (w' : World) : Prop :=
  ((findL L q = none ∧ e = .returned (.pointer none)) ∨ ∃ g a B, findL L q = some a ∧ e = .returned (.pointer (some ⟨g, 0, none⟩)) ∧ w.heap.size ≤ B ∧ ArrR w' B g a.1 a.2) ∧ Below w.heap.size w w'

set_option maxRecDepth 100000 in
set_option maxHeartbeats 1000000 in
theorem eqIn_place (w : World) (a b c d a' b' c' d' : Int) : (Op.equalIn 10000 92 (.agg #[.int .i64 a, .int .i64 b, .int .i64 c, .int .i64 d]) (.agg #[.int .i64 a', .int .i64 b', .int .i64 c', .int .i64 d'])).run Try.prog w =
    .ok (a == a' && b == b' && c == c' && d == d') w := by
  have u3 := Try.underlying3
  have a3 := Try.isAgg3
  have z3 := Try.sizeOf3
  rw [show (10000 : Nat) = 9999 + 1 from rfl, Op.equalIn]
  simp only [Sem.run_bind, run_underlying Try.underlying92, Result.andThen_ok]
  simp only [Std.Legacy.Range.forIn_eq_forIn_range', Std.Legacy.Range.size, Nat.sub_zero, Nat.add_sub_cancel, Nat.div_one, List.range'_succ, List.range'_zero, List.forIn_cons, List.forIn_nil]
  go_simp
  by_cases h1 : a = a' <;> by_cases h2 : b = b' <;> by_cases h3 : c = c' <;> by_cases h4 : d = d' <;> simp [h1, h2, h3, h4]
theorem pl_eq {p q : List Int} (h : p.length = q.length) (h4 : p.length ≤ 4) : (p.getD 0 0 == q.getD 0 0 && p.getD 1 0 == q.getD 1 0 && p.getD 2 0 == q.getD 2 0 && p.getD 3 0 == q.getD 3 0) = decide (p = q) := by
  by_cases he : p = q
  · subst he; simp
  · rw [decide_eq_false he, Bool.eq_false_iff]
    intro hc
    simp only [Bool.and_eq_true, beq_iff_eq] at hc
    obtain ⟨⟨⟨h0, h1⟩, h2⟩, h3⟩ := hc
    exact he (plV_inj h h4 (by unfold plV plA; rw [h0, h1, h2, h3]))

set_option maxRecDepth 100000 in
set_option maxHeartbeats 2000000 in
theorem find_c (Z : Nat) (A B C : Option Addr) (l : List (Int × Int)) (p q : List Int) (c d f : Nat) (w : World) (ht : trapE Z l = 0) (hp4 : p.length ≤ 4) (hpz : p.length ≤ Z) (hin : ∀ x ∈ p, 0 ≤ x ∧ x < (Z : Int)) (hq : q.length = p.length) (hr : Rd w A (cellsP l)) (hs : Rd w B (ints p)) (hs2 : Rd w C (ints q)) :
    Calls Try.prog 73 #[trapV Z A l.length c, .slice B p.length d, .slice C q.length f] w (OutF (reachL l Z p) q w) := by
  have x0 := Bx.new w 24 #[.int .i64 Z, .slice A l.length c]
  have hb0 := bl_alloc (Below.refl w.heap.size w) (.cells #[.int .i64 Z, .slice A l.length c] 24)
  generalize hw0 : w.alloc (.cells #[.int .i64 Z, .slice A l.length c] 24) = w0 at *
  have HP := Lib.hid (placeOf_c C q f w0 (by omega) (hs2.later hb0))
  rw [hq] at HP ⊢
  have HS := fun w1 h hh => Lib.hid (search_c Z A B l p c d w1 ht hp4 hpz hin h hh)
  have HD := fun (x : List Int) (hx : x.length = p.length) => Lib.hid (pl_eq (p := x) (q := q) (by omega) (by omega))
  have HQ := Lib.hid hq
  clear hq
  unfold plA at HP
  generalize q.getD 0 0 = v0 at *
  generalize q.getD 1 0 = v1 at *
  generalize q.getD 2 0 = v2 at *
  generalize q.getD 3 0 = v3 at *
  go_enter Try.func73, Try.ntmps73
  go_wp2_with (fail)
  refine HP.out.mono ?_
  rintro e w1 ⟨rfl, hb1⟩
  have hb01 := bl_call hb0 hb1
  have hb1n := bl_alloc hb01 (.cells #[.int .i64 v0, .int .i64 v1, .int .i64 v2, .int .i64 v3] 92)
  have xg := Bx.new w1 92 #[.int .i64 v0, .int .i64 v1, .int .i64 v2, .int .i64 v3]
  obtain ⟨c0, c1, _⟩ := ((x0.call hb1).alloc (.cells #[.int .i64 v0, .int .i64 v1, .int .i64 v2, .int .i64 v3] 92)).two
  obtain ⟨wa, hwa⟩ : ∃ wa, wa = w1.alloc (.cells #[.int .i64 v0, .int .i64 v1, .int .i64 v2, .int .i64 v3] 92) := ⟨_, rfl⟩
  rw [← hwa] at hb1n xg c0 c1
  have HSA := HS wa (hr.later hb1n) (hs.later hb1n)
  rw [hwa] at HSA c0 c1
  go_wp2_with (fail)
  rw [← hwa] at HSA ⊢
  refine HSA.out.mono ?_
  clear hwa HSA c0 c1
  rintro e w2 ⟨bo, bn, bi, bs, bm, h0, h1, h2, h3, h4, h5, g, rfl, hz, hb2⟩
  have hb02 := bl_call hb1n hb2
  have HN := fun P Q S w (h : SZ w wa.heap.size bo bn bi bs bm Z p.length l p P Q S h0 h1 h2 h3 h4 h5) => Lib.hid (next_z h)
  unfold srV
  go_wp2_with (fail)
  refine (HN _ _ _ _ hz).out.mono ?_
  rintro e w3 ⟨P, Q, S, v, rfl, hz3, hb3, hv⟩
  obtain ⟨a, ga, rfl, hv1, har⟩ : ∃ a ga, P = [a] ∧ v = .pointer (some ⟨ga, 0, none⟩) ∧ ArrR w3 wa.heap.size ga a.1 a.2 := by
    rcases hv with ⟨h, _⟩ | ⟨ga, a, h1, h2, h3⟩
    · simp at h
    · exact ⟨a, ga, by simpa using h2, h1, h3⟩
  subst hv1
  have hb23 : Below wa.heap.size wa w3 := hb2.trans hb3
  clear hv hr hs hz
  go_wp2_with (fail)
  go_loopg [9] (reachL l Z p).length (fun gk v wr => ∃ (k : Nat) (P : List Nd) (Q : List (Nat × Nd)) (S : List (List Int)) (u : Value), u = v ∧ Hid (k + gk = (reachL l Z p).length) ∧ SZ wr wa.heap.size bo bn bi bs bm Z p.length l p P Q S h0 h1 h2 h3 h4 h5 ∧ Below wa.heap.size wa wr ∧ ((gk = 0 ∧ u = .pointer none ∧ reachL l Z p = P ∧ ∀ x ∈ P, x.1 ≠ q) ∨ (gk ≠ 0 ∧ ∃ g a P0, u = .pointer (some ⟨g, 0, none⟩) ∧ P = P0 ++ [a] ∧ P0.length = k ∧ ArrR wr wa.heap.size g a.1 a.2 ∧ ∀ x ∈ P0, x.1 ≠ q)))
  case atStart => 
    have hlN := hz3.le
    simp only [List.length_singleton] at hlN
    exact ⟨0, _, _, _, _, rfl, by simp [Hid], hz3, hb23, .inr ⟨by omega, ga, a, [], rfl, rfl, rfl, har, by simp⟩⟩
  case round =>
    obtain ⟨k, P, Q, S, v, rfl, HK, hz, hb, hv⟩ := hrel
    rcases gk with _ | gi
    · obtain ⟨rfl, hP, hno⟩ : v = .pointer none ∧ reachL l Z p = P ∧ ∀ x ∈ P, x.1 ≠ q := by
        rcases hv with h | h
        · exact h.2
        · exact absurd rfl h.1
      have HNO := Lib.hid hno
      clear hno hv
      go_wp2_with (fail)
      go_ret
      exact ⟨.inl ⟨by rw [hP]; exact findL_none HNO.out, rfl⟩, hb1n.trans (hb.mono hb1n.size)⟩
    · obtain ⟨g2, a2, P0, rfl, rfl, hPk, har2, hno⟩ : ∃ g a P0, v = .pointer (some ⟨g, 0, none⟩) ∧ P = P0 ++ [a] ∧ P0.length = k ∧ ArrR wr wa.heap.size g a.1 a.2 ∧ ∀ x ∈ P0, x.1 ≠ q := by
        rcases hv with h | h
        · exact absurd h.1 (by omega)
        · exact h.2
      have hHK := HK.out
      have HNO := Lib.hid hno
      have hpl := ((hz.left.bounds hz.start hz.z6 hz.n4).2.2.2 a2 (by simp)).2.1
      have HD2 := HD a2.1 hpl
      obtain ⟨bf, m1, m2, yg⟩ := har2.box
      have xg2 := xg.call hb
      have hgl := yg.lt
      have hxl := xg2.lt
      obtain ⟨s0, s1, s2, s3⟩ : wr.cell? ⟨w1.heap.size, 0, none⟩ = some (.int .i64 v0) ∧ wr.cell? ⟨w1.heap.size, 1, none⟩ = some (.int .i64 v1) ∧ wr.cell? ⟨w1.heap.size, 2, none⟩ = some (.int .i64 v2) ∧ wr.cell? ⟨w1.heap.size, 3, none⟩ = some (.int .i64 v3) := ⟨xg2.cell 0, xg2.cell 1, xg2.cell 2, xg2.cell 3⟩
      unfold plA at yg
      generalize a2.1.getD 0 0 = y0 at yg HD2
      generalize a2.1.getD 1 0 = y1 at yg HD2
      generalize a2.1.getD 2 0 = y2 at yg HD2
      generalize a2.1.getD 3 0 = y3 at yg HD2
      obtain ⟨t0, t1, t2, t3⟩ : wr.cell? ⟨g2, 0, none⟩ = some (.int .i64 y0) ∧ wr.cell? ⟨g2, 1, none⟩ = some (.int .i64 y1) ∧ wr.cell? ⟨g2, 2, none⟩ = some (.int .i64 y2) ∧ wr.cell? ⟨g2, 3, none⟩ = some (.int .i64 y3) := ⟨yg.cell 0, yg.cell 1, yg.cell 2, yg.cell 3⟩
      have HEQ := fun w => eqIn_place w y0 y1 y2 y3 v0 v1 v2 v3
      have hl := hz.le
      have hleft := hz.left.2
      have HLE := Lib.hid hleft
      clear hv hno hleft
      by_cases hq2 : a2.1 = q
      · rw [decide_eq_true hq2] at HD2
        simp only [HD2.out] at HEQ
        have HQ2 := Lib.hid hq2
        clear hq2 HD2
        go_wp2_with (fail)
        go_region
        all_goals
          go_wp2_with (fail)
          go_ret
          refine ⟨.inr ⟨g2, a2, wa.heap.size, ?_, rfl, hb1n.size, ArrR.kept (fun _ _ hx => hx.drew) _ _ _ har2⟩, (hb1n.trans (hb.mono hb1n.size)).drew⟩
          rw [HLE.out, List.append_assoc, List.singleton_append]
          exact findL_at HNO.out HQ2.out
      · rw [decide_eq_false hq2] at HD2
        simp only [HD2.out] at HEQ
        have HQ2 := Lib.hid hq2
        clear hq2 HD2
        go_wp2_with (fail)
        go_region
        all_goals
          go_wp2_with (fail)
          refine (HN _ _ _ _ (hz.call (Below.refl _ _).drew)).out.mono ?_
          rintro e w4 ⟨P', Q', S', v, rfl, hz4, hb4, hv⟩
          have hbw : Below wa.heap.size wa w4 := hb.drew.trans hb4
          go_wp2_with (fail)
          go_roundg gi
          case rel =>
            refine ⟨k + 1, P', Q', S', _, rfl, by show _ = _; omega, hz4, hbw, ?_⟩
            rcases hv with ⟨_, h2, h3, h4⟩ | ⟨g', a', h1, h2, h3⟩
            · left
              subst h3
              refine ⟨?_, h2, h4, fun x hx => ?_⟩
              · rw [h4, List.length_append, hPk, List.length_singleton] at hHK
                omega
              · rcases List.mem_append.1 hx with hx | hx
                · exact HNO.out x hx
                · rw [List.mem_singleton.1 hx]; exact HQ2.out
            · right
              have hl' := hz4.le
              rw [h2] at hl'
              simp only [List.length_append, List.length_singleton, hPk] at hl'
              refine ⟨by omega, g', a', _, h1, h2, by rw [List.length_append, List.length_singleton, hPk], h3, fun x hx => ?_⟩
              rcases List.mem_append.1 hx with hx | hx
              · exact HNO.out x hx
              · rw [List.mem_singleton.1 hx]; exact HQ2.out
          case measure => omega
end Go.Proofs.Ytjgpfnnokdcgoaa
