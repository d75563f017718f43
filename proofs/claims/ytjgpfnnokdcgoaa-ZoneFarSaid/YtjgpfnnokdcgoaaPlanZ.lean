/- The plan of an arrival; Plan of package zone. -/
import Derived.Test.YtjgpfnnokdcgoaaFarZ
import Derived.Test.YtjgpfnnokdcgoaaRowM
import Derived.StillTailTactics
namespace Go.Proofs.Ytjgpfnnokdcgoaa
open Go.RowKit Go.Maps

set_option maxRecDepth 100000 in
set_option maxHeartbeats 4000000 in
theorem plan_c (B g : Nat) (p : List Int) (r : List (Int × Int)) (w : World) (har : ArrR w B g p r) (hr5 : r.length ≤ 100000) :
    Calls Try.prog 76 #[.pointer (some ⟨g, 0, none⟩)] w fun e w' => ∃ A' c', e = .returned (.slice A' r.reverse.length c') ∧ w'.ownsRow w.heap.size 54 2 (.slice A' r.reverse.length c') r.reverse.length (cellsP r.reverse) ∧ Below w.heap.size w w' := by
  obtain ⟨bf, m1, m2, yg⟩ := har.box
  have n4 := yg.cell 4
  have hgl := yg.lt
  simp at n4
  obtain ⟨w5, hmk, hob, hg5⟩ := made_moves r.length hr5 w
  have hb5 : Below w.heap.size w w5 := (Below.refl _ _).grown hg5 (Nat.le_refl _) (fun k hk => by cases hk)
  rw [List.length_replicate] at hob
  rw [List.length_reverse]
  go_enter Try.func76, Try.ntmps76
  go_wp2_with (fail)
  clear hmk n4
  go_loopg [0] r.length (fun gk av wr => ∃ (g' : Nat) (p' : List Int) (X r' : List (Int × Int)), Hid (r = X ++ r') ∧ Hid (r'.length = gk) ∧ .pointer (some ⟨g', 0, none⟩) = av ∧ ArrR w B g' p' r' ∧ wr.ownsRow w.heap.size 54 2 (.slice (some ⟨w.heap.size, 0, none⟩) r.length r.length) r.length (cellsP (List.replicate gk (0, 0) ++ X.reverse)) ∧ Below w.heap.size w wr)
  case atStart => exact ⟨g, p, [], r, by simp [Hid], by simp [Hid], rfl, har, by simpa using hob, hb5⟩
  case round =>
    obtain ⟨g', p', X, r', HX, HR, rfl, har', hown, hb⟩ := hrel
    have harr := ArrR.kept (fun _ _ hx => hx.call hb) _ _ _ har'
    rcases gk with _ | gi
    · have hr0 : r' = [] := List.length_eq_zero_iff.1 HR.out
      subst hr0
      have hx := HX.out
      rw [List.append_nil] at hx
      rw [List.replicate_zero, List.nil_append, ← hx] at hown
      have y := harr.2
      have n6 := y.cell 5
      have hgl' := y.lt
      simp at n6
      clear hx
      go_wp2_with (fail)
      go_ret
      exact ⟨_, _, rfl, hown, hb⟩
    · obtain ⟨m, r2, rfl⟩ : ∃ m r2, r' = m :: r2 := by
        cases r' with
        | nil => exact absurd HR.out (by simp)
        | cons m r2 => exact ⟨m, r2, rfl⟩
      obtain ⟨_, g2, p2, y, har2⟩ := har'
      have hgi : r2.length = gi := by have h := HR.out; simpa using h
      have hrl : r.length = X.length + (gi + 1) := by rw [HX.out, List.length_append, List.length_cons, hgi]
      have yr := y.call hb
      obtain ⟨n4, n5, n6, n7⟩ : wr.cell? ⟨g', 4, none⟩ = some (.int .i64 ((gi : Int) + 1)) ∧ wr.cell? ⟨g', 5, none⟩ = some (.pointer (some ⟨g2, 0, none⟩)) ∧ wr.cell? ⟨g', 6, none⟩ = some (.int .i64 m.1) ∧ wr.cell? ⟨g', 7, none⟩ = some (.int .i64 m.2) := by rw [← hgi]; exact ⟨yr.cell 4, yr.cell 5, yr.cell 6, yr.cell 7⟩
      have hgl' := yr.lt
      have hLl : (List.replicate (gi + 1) ((0 : Int), (0 : Int)) ++ X.reverse).length = r.length := by rw [List.length_append, List.length_replicate, List.length_reverse]; omega
      have HSL : Hid ((List.replicate (gi + 1) ((0 : Int), (0 : Int)) ++ X.reverse).set gi m = List.replicate gi (0, 0) ++ (X ++ [m]).reverse) := by show _ = _; rw [set_last, List.reverse_append]; rfl
      have hgLl : gi < (List.replicate (gi + 1) ((0 : Int), (0 : Int)) ++ X.reverse).length := by omega
      have hownD : wr.drew.ownsRow w.heap.size 54 2 (.slice (some ⟨w.heap.size, 0, none⟩) (List.replicate (gi + 1) ((0 : Int), (0 : Int)) ++ X.reverse).length r.length) (List.replicate (gi + 1) ((0 : Int), (0 : Int)) ++ X.reverse).length (cellsP (List.replicate (gi + 1) ((0 : Int), (0 : Int)) ++ X.reverse)) := by rw [hLl]; exact hown
      generalize List.replicate (gi + 1) ((0 : Int), (0 : Int)) ++ X.reverse = L at *
      obtain ⟨ma, mb⟩ := m
      obtain ⟨gb, he, hgb, hgbl, ⟨q0, q1⟩, ⟨r0, r1⟩, hbk2⟩ := own_putM hownD hgLl ma mb
      cases he
      rw [hLl, HSL.out] at hbk2
      have hb6 : Below w.heap.size w ((wr.drew.setCell ⟨w.heap.size, gi * 2, none⟩ (.int .i64 ma)).setCell ⟨w.heap.size, gi * 2 + 1, none⟩ (.int .i64 mb)) := bl_set (bl_set hb.drew (Nat.le_refl _) _) (Nat.le_refl _) _
      have HREL := Lib.hid (And.intro hbk2 hb6)
      have hgne : g' < w.heap.size := y.lt
      have yD : Bx wr.drew g' 94 _ := yr
      have y6 := (yD.far (g' := w.heap.size) (i := gi * 2) (by omega) (.int .i64 ma)).far (g' := w.heap.size) (i := gi * 2 + 1) (by omega) (.int .i64 mb)
      have hu1 : IntKind.i64.wrap (gi : Int) = (gi : Int) := by simp [IntKind.wrap, IntKind.bits, IntKind.signed]; omega
      have hgM : (gi : Int) < (r.length : Int) := by omega
      simp only [] at n6 n7
      clear hbk2 hb6 hownD hown yD hgi hrl HSL
      go_wp2_with (fail)
      go_still_tail 11, (by kernel_rfl)
      change wpList _ _ _ _ _ wr.drew
      clear n4 n5 n6 n7
      have n5 := y6.cell 5
      have hgl6 := y6.lt
      simp at n5
      generalize wr.drew = wd at *
      go_wp2_with (fail)
      go_roundg gi
      case rel => exact ⟨g2, p2, X ++ [(ma, mb)], r2, by have h := HX.out; show _ = _; rw [h]; simp, by have h := HR.out; show _ = _; simpa using h, rfl, har2, HREL.out.1, HREL.out.2⟩
      case measure => omega

def planV (o : Option Nd) : List (Int × Int) := match o with | some a => a.2.reverse | none => []

set_option maxRecDepth 100000 in
set_option maxHeartbeats 2000000 in
theorem Plan_c (Z : Int) (A B C : Option Addr) (l : List (Int × Int)) (p q : List Int) (c d f : Nat) (w : World) (hlen : l.length ≤ 1000) (hlen' : p.length ≤ 1000) (hlen2 : q.length ≤ 1000) (hfar : ∀ a, arrG Z l p q = some a → a.2.length ≤ 100000) (hr : Rd w A (cellsP l)) (hs : Rd w B (ints p)) (hs2 : Rd w C (ints q)) :
    Calls Try.prog 38 #[trapV Z A l.length c, .slice B p.length d, .slice C q.length f] w fun e w' => ∃ A' c', e = .returned (.tuple #[.slice A' (planV (arrG Z l p q)).length c', .bool (arrG Z l p q).isSome, .int .i64 (bothE Z l p q)]) ∧
      w'.ownsRow w.heap.size 54 2 (.slice A' (planV (arrG Z l p q)).length c') (planV (arrG Z l p q)).length (cellsP (planV (arrG Z l p q))) ∧ Below w.heap.size w w' := by
  have x0 := Bx.new w 24 #[.int .i64 Z, .slice A l.length c]
  have hb0 := bl_alloc (Below.refl w.heap.size w) (.cells #[.int .i64 Z, .slice A l.length c] 24)
  generalize hw0 : w.alloc (.cells #[.int .i64 Z, .slice A l.length c] 24) = w0 at *
  have HV := Lib.hid (both_c Z A B C l p q c d f w0 hlen hlen' hlen2 (hr.later hb0) (hs.later hb0) (hs2.later hb0))
  obtain ⟨c0, c1, _⟩ := x0.two
  by_cases hp : bothE Z l p q = 0
  · obtain ⟨hpp, hqq, hql⟩ := bothE_zero hp
    obtain ⟨ht, hp4, hin, hnd⟩ := placeE_zero hpp
    obtain ⟨n, rfl, hn1, hn6⟩ := trap_nat ht
    have hpn := nodup_le hnd hin
    have HF := fun w1 h hh hhh => Lib.hid (find_c n A B C l p q c d f w1 ht hp4 hpn hin hql h hh hhh)
    have e1 : arrG n l p q = findL (reachL l n p) q := by rw [arrG, if_pos hp]; simp
    rw [e1] at hfar ⊢
    rw [hp]
    rw [hp] at HV
    clear e1 hp hpp hqq hql hin hnd ht
    unfold OutF at HF
    generalize findL (reachL l n p) q = o at *
    go_enter Try.func38, Try.ntmps38
    go_wp2_with (fail)
    refine HV.out.mono ?_
    rintro e w1 ⟨rfl, hb1⟩
    have hb01 := bl_call hb0 hb1
    clear c0 c1
    obtain ⟨c0, c1, _⟩ := (x0.call hb1).two
    go_wp2_with (fail)
    refine (HF _ (hr.later hb01) (hs.later hb01) (hs2.later hb01)).out.mono ?_
    rintro e w2 ⟨hv, hb2⟩
    have hb02 := bl_call hb01 hb2
    rcases hv with ⟨rfl, rfl⟩ | ⟨g, a, B3, rfl, rfl, _, har⟩
    · go_wp2_with (fail)
      go_ret3
      exact ⟨none, 0, rfl, World.ownsRow_nil _ _ _ _, hb02⟩
    · have HPL := Lib.hid (plan_c B3 g a.1 a.2 w2 har (hfar a rfl))
      have hgl := har.box.choose_spec.choose_spec.choose_spec.lt
      clear hfar
      go_wp2_with (fail)
      refine HPL.out.mono ?_
      rintro e w3 ⟨A', c', rfl, ho, hb3⟩
      go_wp2_with (fail)
      go_ret3
      exact ⟨A', c', by show _ = Ending.returned (.tuple #[.slice A' a.2.reverse.length c', _, _]); rw [List.length_reverse]; rfl, own_base ho hb02.size, bl_call hb02 hb3⟩
  · have e1 : arrG Z l p q = none := by rw [arrG, if_neg hp]
    rw [e1]
    clear e1 hfar
    generalize bothE Z l p q = te at *
    go_enter Try.func38, Try.ntmps38
    go_wp2_with (fail)
    refine HV.out.mono ?_
    rintro e w1 ⟨rfl, hb1⟩
    go_wp2_with (fail)
    go_ret3
    exact ⟨none, 0, rfl, World.ownsRow_nil _ _ _ _, bl_call hb0 hb1⟩
end Go.Proofs.Ytjgpfnnokdcgoaa
