/- The points of a path, as a list in new memory: the program's way. -/
import Derived.Test.YtpjdojjdhbmbjaaVals
import Derived.Test.YtpjdojjdhbmbjaaSteps
namespace Go.Proofs.Ytpjdojjdhbmbjaa
open Go.RowKit Go.Shelf
attribute [local go_sem] Oper.semAt_some

def pathG (p : List Int) (m : Int) : List (Int × Int) := if inE p m = 0 then pathL m p else []
theorem pathL_len (m : Int) (p : List Int) : (pathL m p).length = p.length + 1 := by simp [pathL]
theorem inE_len {p : List Int} {m : Int} (h : inE p m = 0) : p.length ≤ 12 := by
  unfold inE at h
  by_cases hv : validE p = 0
  · unfold validE at hv
    by_cases hl : p.length ≤ 12
    · exact hl
    · rw [if_neg hl] at hv; cases hv
  · rw [if_neg hv] at h; exact absurd h hv
def PtOut (E : Int) (l : List (Int × Int)) (w : World) (e : Ending) (w' : World) : Prop := ∃ A' c, e = .returned (.tuple #[.slice A' l.length c, .int .i64 E]) ∧ Rd w' A' (cellsP l) ∧ Below w.heap.size w w'

set_option maxRecDepth 100000 in
set_option maxHeartbeats 2000000 in
theorem path_c (A : Option Addr) (p : List Int) (cap : Nat) (m : Int) (w : World) (hlen : p.length ≤ 9223372036854775806) (hr : Rd w A (ints p)) :
    Calls Try.prog 19 #[.slice A p.length cap, .int .i64 m] w (PtOut (inE p m) (pathG p m) w) := by
  obtain ⟨i0, hi, hz0, hz1, hz2⟩ := info_parts pt_info
  have HV := Lib.hid (validateIn_c A p cap m w hr)
  by_cases hE : inE p m = 0
  · have hl12 := inE_len hE
    have hg : pathG p m = pathL m p := by rw [pathG, if_pos hE]
    have hpl := pathL_len m p
    rw [hg]
    rw [hE] at HV ⊢
    clear hg hE
    have hmk := run_make (P := Try.prog) w 25 30 i0 _ Try.underlying25 hi hz0 .i64 .i64 0 ((p.length : Int) + 1) (by omega) (by omega) (by rw [hz2]; omega) (by omega)
    rw [show ((p.length : Int) + 1).toNat = p.length + 1 by omega, show (0 : Int).toNat = 0 from rfl] at hmk
    have hms : (madeCells (Value.agg #[.int .i64 0, .int .i64 0]).cells ((p.length + 1) * i0.size)).size = (p.length + 1) * 2 := by rw [size_madeCells, hz1]
    generalize madeCells (Value.agg #[.int .i64 0, .int .i64 0]).cells ((p.length + 1) * i0.size) = cs at hmk hms
    have hown0 := World.ownsRow_made (e := 30) (size := 2) w cs (p.length + 1) (Nat.le_refl w.heap.size) (by unfold maxLen; omega) hms
    have HM := Lib.hid hms
    clear hms
    refine (callsIn_wide (n := 9)).1 ?_
    refine callsIn_of_wp_marks Try.func19 rfl trivial ?_ rfl
    simp only [Try.ntmps19, List.size_toArray, List.length_cons, List.length_nil, Nat.reduceAdd, Nat.reduceSub, Array.replicate_succ, Array.replicate_zero, List.push_toArray, List.append_toArray, List.nil_append, List.cons_append]
    gi_wp2_with (fail)
    refine ⟨trivial, ?_⟩
    refine (callsIn_wide.2 HV.out).mono ?_
    rintro en w' ⟨rfl, rfl⟩
    clear HV
    gi_wp2_with (fail)
    refine ⟨trivial, ?_⟩
    refine (callsIn_wide.2 (points_c _ _ _ _ _)).mono ?_
    rintro en w1 ⟨rfl, hw1⟩
    simp only [World.size_alloc, Nat.add_assoc, Nat.reduceAdd] at *
    have hb1 : Below w.heap.size w w1 := by rw [← hw1]; exact bl_alloc (bl_alloc (bl_alloc (bl_alloc (Below.refl _ _) _) _) _) _
    have hs1 : w1.heap.size = w.heap.size + 4 := by rw [← hw1]; simp
    have hown1 : w1.ownsRow w.heap.size 30 2 (.slice (some ⟨w.heap.size, 0, none⟩) 0 (p.length + 1)) 0 [] := by rw [← hw1]; exact ((hown0.alloc _).alloc _).alloc _
    have x1 : Bx w1 (w.heap.size + 1) 25 #[.slice (some ⟨w.heap.size, 0, none⟩) 0 (p.length + 1)] := by rw [← hw1]; exact ((Bx.newAt (by simp)).alloc _).alloc _
    have x2 : Bx w1 (w.heap.size + 2) 22 #[.slice A p.length cap] := by rw [← hw1]; exact (Bx.newAt (by simp)).alloc _
    have x3 : Bx w1 (w.heap.size + 3) 3 #[.int .i64 m] := by rw [← hw1]; exact Bx.newAt (by simp)
    clear hw1 hmk hown0
    have hr1 := hr.later hb1
    have hrb := hr.blk
    gi_wp2_with (fail)
    refine wp_range (n := 9) (gf := 87) (lb := #[.pointer (some ⟨w.heap.size + 3, 0, none⟩), .pointer (some ⟨w.heap.size + 2, 0, none⟩)]) rfl (enters_of Try.func87 (by kernel_rfl) rfl)
      (points_iter w1 A p cap m (w.heap.size + 3) (w.heap.size + 2) (fun k => k < w.heap.size ∨ k = w.heap.size + 2 ∨ k = w.heap.size + 3) hlen (by omega) (by omega) x3.one.1 x2.one.1 hr1 (by omega) (.inr (.inl rfl)) (fun a e h => .inl (hrb a e h)))
      (Below.refl _ _) (by omega) (fun _ _ _ h => by rw [h]; rfl)
      (fun e pre W => Bx W (w.heap.size + 1) 25 #[.slice (some ⟨w.heap.size, 0, none⟩) pre.length (p.length + 1)] ∧ W.ownsRow w.heap.size 30 2 (.slice (some ⟨w.heap.size, 0, none⟩) pre.length (p.length + 1)) pre.length (cellsP pre) ∧ Below w.heap.size w W)
      (fun _ _ _ _ => False) ?hI (fun _ _ _ _ _ h _ => h.elim) ?h0
      (fun x a' W => ∃ B, Bx W B 30 #[.int .i64 x.1, .int .i64 x.2] ∧ w.heap.size + 4 ≤ B ∧ a' = { tmps := #[.slice A p.length cap, .int .i64 m, undef, undef, .slice none 0 0, .int .i64 0, .int .i64 0, .pointer (some ⟨w.heap.size + 1, 0, none⟩), .pointer (some ⟨B, 0, none⟩),
        .slice A p.length cap, .int .i64 m, .int .i64 0, .int .i64 0, .bool false, undef, .slice A p.length cap, .int .i64 p.length, .int .i64 ((p.length : Int) + 1), .slice (some ⟨w.heap.size, 0, none⟩) 0 (p.length + 1),
        .slice A p.length cap, .int .i64 m, .func (.func 87) #[] #[.pointer (some ⟨w.heap.size + 3, 0, none⟩), .pointer (some ⟨w.heap.size + 2, 0, none⟩)], .agg #[.int .i64 x.1, .int .i64 x.2], undef, undef, undef, undef, undef], defers := [] })
      ?hAx ?assign ?body ?done ?stop
    case hI =>
      rintro e s X Y ⟨h1, h2, hb⟩ hm
      exact ⟨h1.mod hm (fun h => by have := h.1; omega), own_mod h2 hm (fun k hk h => by cases hk; have h3 : w1.heap.size ≤ w.heap.size := h.1; omega), hb.trans (hm.below hb.size (fun k hk h => by have := h.1; omega))⟩
    case h0 =>
      intro e W' hb _ _
      exact ⟨x1.call hb, own_call hown1 hb, bl_call hb1 hb⟩
    case hAx =>
      rintro x a' X Y l o ⟨B, hB, hBs, rfl⟩ hl ⟨r, hr⟩ rfl
      exact ⟨B, hB.put (fun e => by subst e; rw [show X.heap[B]? = _ from hB] at hr; cases hr) _, hBs, rfl⟩
    case assign =>
      rintro l e pre x vs W k he hes ⟨h1, h2, hb⟩ rfl hk
      gi_wp2
      exact hk _ _ ((Mod.refl _ W).alloc _) ⟨W.heap.size, Bx.new W _ _, by omega, rfl⟩
    case body =>
      rintro l e pre x a' W he hes ⟨t, hpre⟩ ⟨h1, h2, hb⟩ ⟨B, hB, hBs, rfl⟩
      have hpl' : pre.length + 1 ≤ p.length + 1 := by rw [← hpl, hpre]; simp
      obtain ⟨hB1, hB2, hB3, hB4⟩ := hB.two
      obtain ⟨hx1, hx2⟩ := h1.one
      clear hown1 x1 x2 x3 hr1 hpl hpre
      gi_wp2_with (gi_at_builtin; refine wpListIn_append_fits _ rfl _ _ 25 rfl w.heap.size 30 i0 2 Try.underlying25 hi hz1 w.heap.size pre.length (p.length + 1) (cellsP pre) rfl (h2.alloc _) ⟨W.heap.size, 0, none⟩ 1 1 [.int .i64 x.1, .int .i64 x.2] rfl rfl ?c1 ?c2 hpl' ?_)
      case c1 =>
        intro j u hj
        have hadd : (⟨W.heap.size, 0, none⟩ : Addr).add j = ⟨W.heap.size, j, none⟩ := by unfold Addr.add; split <;> simp_all
        rw [hadd]
        match j, hj with
        | 0, hj => simp at hj; subst hj; simp
        | 1, hj => simp at hj; subst hj; simp
      case c2 => intro u hu; simp at hu; rcases hu with rfl | rfl <;> rfl
      intro w4 hown4 hg4
      have m4 : Mod (fun k => k = w.heap.size) W w4 := ((Mod.refl _ W).alloc _).grown hg4 (fun k e => .inr (by cases e; rfl))
      have h1' := h1.mod m4 (by omega)
      have hH : Hid (w4.ownsRow w.heap.size 30 2 (.slice (some ⟨w.heap.size, 0, none⟩) (pre ++ [x]).length (p.length + 1)) (pre ++ [x]).length (cellsP (pre ++ [x]))) := by
        show World.ownsRow _ _ _ _ _ _ _
        rw [cellsP_snoc, List.length_append]; exact hown4
      have hln : (pre ++ [x]).length = pre.length + 1 := by simp
      have HL := Lib.hid hln
      obtain ⟨hx1, hx2⟩ := h1'.one
      clear hown4 hg4 hB1 hB2 hB3 hB4 h2 hln
      gi_wp2_with (fail)
      refine ⟨(m4.weak (fun k hk => ⟨by omega, fun h => by have := h.1; omega⟩)).setCell (.inr ⟨by omega, fun h => by have := h.1; omega⟩) _, by rw [HL.out]; exact h1'.set1 _, ?_, ?_⟩
      · exact own_mod (S := fun k => k = w.heap.size + 1) hH.out ((Mod.refl (fun k => k = w.heap.size + 1) w4).setCell (.inr rfl) _) (fun k hk h => by cases hk; have h3 : w.heap.size = w.heap.size + 1 := h; omega)
      · exact bl_set (hb.trans (m4.below hb.size (fun k hk h => by omega))) (by omega) _
    case stop =>
      intro D e c pre W _ _ _ _ h
      exact h.elim
    case done =>
      rintro D e W hD hDe hes ⟨h1, h2, hb⟩ hK
      obtain ⟨hx1, hx2⟩ := h1.one
      rw [hpl] at h2 hx1 h1
      gi_wp2
      refine ⟨by simp, .inl ⟨_, _, rfl, run_takeDeferred hK, ?_⟩⟩
      have hown := own_mod (S := fun k => k = D) h2 ((Mod.refl (fun k => k = D) W).putObj (.inr rfl) (.deferred none)) (fun k hk h => by cases hk; have h3 : w.heap.size = D := h; omega)
      exact ⟨.tuple #[.slice (some ⟨w.heap.size, 0, none⟩) (p.length + 1) (p.length + 1), .int .i64 0], by simp [results, Try.f19, go_sem], _, _, by rw [hpl], (own_rd hown).1, bl_put hb (by omega) _⟩
  · have hE' : (inE p m != 0) = true := by simpa using hE
    have hg : pathG p m = [] := by rw [pathG, if_neg hE]
    rw [hg]
    clear hg hE
    go_enter Try.func19, Try.ntmps19
    go_wp2_with (fail)
    refine HV.out.mono ?_
    rintro e w' ⟨rfl, rfl⟩
    go_wp2_with (fail)
    go_ret2
    exact ⟨none, 0, rfl, .inl rfl, Below.refl _ _⟩
end Go.Proofs.Ytpjdojjdhbmbjaa
