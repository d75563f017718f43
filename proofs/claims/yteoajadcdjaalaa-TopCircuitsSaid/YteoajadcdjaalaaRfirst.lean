/- The document's firsts: the places of the free gates. -/
import Derived.Test.YteoajadcdjaalaaRval
import Derived.Test.YteoajadcdjaalaaAlkM
import Derived.Test.YteoajadcdjaalaaFirsts
import Derived.Test.YteoajadcdjaalaaLayC
namespace Go.Proofs.Yteoajadcdjaalaa
open Go.RowKit

theorem gateB_mono {n : Int} {x : G} (hn : n ≤ 4) (h : gateB n x = true) : gateB 4 x = true := by
  obtain ⟨k, a, b, t⟩ := x
  simp only [gateB, isGateB, Bool.and_eq_true, decide_eq_true_eq] at h ⊢
  refine ⟨h.1, ?_⟩
  have h2 := h.2
  split at h2
  · rename_i hk
    rw [if_pos hk]
    simp only [Bool.and_eq_true, decide_eq_true_eq] at h2 ⊢
    exact ⟨⟨h2.1.1, by omega⟩, h2.2⟩
  · rename_i hk
    rw [if_neg hk]
    split at h2
    · rename_i hk2
      rw [if_pos hk2]
      simp only [Bool.and_eq_true, decide_eq_true_eq] at h2 ⊢
      exact ⟨h2.1, by omega⟩
    · cases h2
theorem validE_n {n : Int} {l : List G} (h : validE n l = 0) : 1 ≤ n ∧ n ≤ 4 := by
  rw [validE] at h
  by_cases hi : inB n 1 4 = true
  · exact inB_z.1 hi
  · rw [if_neg hi] at h; cases h
/-- All of them are gates of at most four qubits. -/
def Gs (l : List G) : Prop := ∀ x ∈ l, gateB 4 x = true
theorem validE_gs {n : Int} {l : List G} (h : validE n l = 0) : Gs l := by
  obtain ⟨_, _, h3⟩ := gatesE_ang h
  intro x hx
  exact gateB_mono (validE_n h).2 (List.all_eq_true.1 h3 x hx)
theorem Gs.get {l : List G} (h : Gs l) {k : Nat} (hk : k < l.length) : gateB 4 (l.getD k g0) = true := by
  have : l.getD k g0 = l[k] := by simp [hk]
  rw [this]; exact h _ (List.getElem_mem hk)
theorem rbound_tied {k a b t k' a' b' t' : Int} (h : gateB 4 (k, a, b, t) = true) (h' : gateB 4 (k', a', b', t') = true) : rboundB k a b k' a' b' = tiedG (k, a, b, t) (k', a', b', t') := by
  rw [rboundB, rcomm_eq h h']; rfl

def freeTo (l : List G) (i j : Nat) : Bool := (List.range j).all fun q => !tiedG (l.getD q g0) (l.getD i g0)
theorem freeTo_succ (l : List G) (i j : Nat) : freeTo l i (j + 1) = (freeTo l i j && !tiedG (l.getD j g0) (l.getD i g0)) := by simp [freeTo, List.range_succ]
theorem freeTo_all (l : List G) (i : Nat) : freeTo l i i = freeB l i := rfl
/-- The places of the free gates among the first k. -/
def frTo (l : List G) : Nat → List Int
  | 0 => []
  | k + 1 => if freeB l k then frTo l k ++ [(k : Int)] else frTo l k
theorem frTo_len (l : List G) : ∀ k, (frTo l k).length ≤ k
  | 0 => by simp [frTo]
  | k + 1 => by
    have := frTo_len l k
    rw [frTo]; split
    · simp; omega
    · omega

set_option maxRecDepth 100000 in
set_option maxHeartbeats 4000000 in
theorem rfirsts_c (A : Option Addr) (l : List G) (c : Nat) (w : World) (hlen : l.length ≤ 1000) (hg : Gs l) (hr : Rd w A (cellsG l)) :
    Calls Try.prog 69 #[.slice A l.length c] w fun e w' => ∃ A' c', e = .returned (.slice A' (frTo l l.length).length c') ∧ w'.ownsRow w.heap.size 3 1 (.slice A' (frTo l l.length).length c') (frTo l l.length).length (ints (frTo l l.length)) ∧ Below w.heap.size w w' := by
  obtain ⟨i0, hi, hz0, hz1, hz2⟩ := info_parts int_info
  have HF := frTo_len l
  go_enter Try.func69, Try.ntmps69
  go_wp2_with (fail)
  go_loopg [3, 4] l.length (fun gk v iv wr => ∃ i : Nat, i + gk = l.length ∧ iv = .int .i64 (i : Int) ∧ wr.ownsRow w.heap.size 3 1 v (frTo l i).length (ints (frTo l i)) ∧ Below w.heap.size w wr)
  case atStart => exact ⟨0, by omega, rfl, World.ownsRow_nil _ _ _ _, Below.refl _ _⟩
  case round =>
    obtain ⟨i, hil, rfl, hown, hb⟩ := hrel
    rcases gk with _ | gi
    · obtain rfl : i = l.length := by omega
      obtain ⟨A', c', rfl⟩ := own_form hown
      go_wp2_with (fail)
      go_ret
      exact ⟨A', c', rfl, hown, hb⟩
    · have hlt : i < l.length := by omega
      have hlt' : (i : Int) < (l.length : Int) := by omega
      have HX : Hid (frTo l (i + 1) = if freeB l i then frTo l i ++ [(i : Int)] else frTo l i) := rfl
      have hfl := HF i
      have hrr := hr.later hb
      have hgi := Lib.hid (hg.get hlt)
      obtain ⟨B, d, rfl⟩ := own_form hown
      clear HF
      generalize frTo l i = L at hown HX hfl
      obtain ⟨wo, rfl⟩ : ∃ wo : World, wo = wr := ⟨_, rfl⟩
      go_wp2_with (fail)
      go_loopg [5, 6] i (fun gk fv jv wi => ∃ j : Nat, j + gk = i ∧ jv = .int .i64 (j : Int) ∧ fv = .bool (freeTo l i j) ∧ Below wo.heap.size wo wi)
      case atStart => exact ⟨0, by omega, rfl, rfl, Below.refl _ _⟩
      case round =>
        obtain ⟨j, hj, rfl, rfl, hb2⟩ := hrel
        rcases gk with _ | gj
        · obtain rfl : j = i := by omega
          rw [freeTo_all]
          have hown2 := own_call hown hb2
          have hbb := bl_call hb hb2
          generalize freeB l j = f at HX
          cases f with
          | true =>
            have HX' : Hid (frTo l (j + 1) = L ++ [(j : Int)]) := by show _ = _; rw [HX.out, if_pos rfl]
            go_wp2_with (at_builtin; refine wpList_append_own _ rfl _ _ 46 rfl w.heap.size 3 i0 _ 1 8 Try.underlying46 hi hz0 hz1 hz2 rfl (by decide) _ _ _ rfl (hown2.alloc _) ⟨wr.heap.size, 0, none⟩ 1 1 [.int .i64 j] rfl rfl (cell_new1 _ _ _) (by intro u hu; rw [List.mem_singleton.1 hu]; rfl) (by unfold maxLen; omega) (by omega) (by have := hbb.size; rw [World.size_alloc]; omega) ?_)
            intro v2 w4 hown4 hg4 _
            have hb4 : Below w.heap.size w w4 := (bl_alloc hbb _).trans (grown_below (hown2.alloc _) hg4 (by have := hbb.size; rw [World.size_alloc]; omega))
            have HO : Hid (w4.ownsRow w.heap.size 3 1 v2 (frTo l (j + 1)).length (ints (frTo l (j + 1)))) := by
              show World.ownsRow _ _ _ _ _ _ _
              rw [HX'.out, ints_snoc, List.length_append]; exact hown4
            clear hown4 hg4 hown hown2
            go_wp2_with (fail)
            go_roundg gi
            case rel => exact ⟨j + 1, by omega, by go_num, HO.out, hb4⟩
            case measure => omega
          | false =>
            have HX' : Hid (frTo l (j + 1) = L) := by show _ = _; rw [HX.out]; simp
            go_wp2_with (fail)
            go_roundg gi
            case rel => exact ⟨j + 1, by omega, by go_num, by rw [HX'.out]; exact hown2, hbb⟩
            case measure => omega
        · have hji : (j : Int) < (i : Int) := by omega
          have hjl : j < l.length := by omega
          have hjl' : (j : Int) < (l.length : Int) := by omega
          have HS := Lib.hid (freeTo_succ l i j)
          have hgj := Lib.hid (hg.get hjl)
          obtain ⟨b, o, rfl, hbl, ⟨c0, c1, c2, c3⟩, d0, d1, d2, d3⟩ := (hrr.later hb2).gates2 hjl hlt
          have hG : Hid (∀ w1, Below wo.heap.size wo w1 →
              (w1.cell? ⟨b, o + j * 4, none⟩ = some (.int .i64 (l.getD j g0).1) ∧ w1.cell? ⟨b, o + j * 4 + 1, none⟩ = some (.int .i64 (l.getD j g0).2.1) ∧ w1.cell? ⟨b, o + j * 4 + 2, none⟩ = some (.int .i64 (l.getD j g0).2.2.1) ∧ w1.cell? ⟨b, o + j * 4 + 3, none⟩ = some (.int .i64 (l.getD j g0).2.2.2)) ∧
              (w1.cell? ⟨b, o + i * 4, none⟩ = some (.int .i64 (l.getD i g0).1) ∧ w1.cell? ⟨b, o + i * 4 + 1, none⟩ = some (.int .i64 (l.getD i g0).2.1) ∧ w1.cell? ⟨b, o + i * 4 + 2, none⟩ = some (.int .i64 (l.getD i g0).2.2.1) ∧ w1.cell? ⟨b, o + i * 4 + 3, none⟩ = some (.int .i64 (l.getD i g0).2.2.2))) := fun w1 hb1 => by
            obtain ⟨b', o', he, _, h1, h2⟩ := (hrr.later hb1).gates2 hjl hlt
            injection he with he
            injection he with e1 e2
            subst e1 e2
            exact ⟨h1, h2⟩
          have HT := Lib.hid (fun k a b t k' a' b' t' h h' => @rbound_tied k a b t k' a' b' t' h h')
          generalize l.getD j g0 = x at *
          generalize l.getD i g0 = y at *
          obtain ⟨xk, xa, xb, xt⟩ := x
          obtain ⟨yk, ya, yb, yt⟩ := y
          simp only [] at c0 c1 c2 c3 d0 d1 d2 d3 hG
          have HTE := Lib.hid (HT.out xk xa xb xt yk ya yb yt hgj.out hgi.out)
          have HC := fun w => Lib.hid (rbound_c xk xa xb xt yk ya yb yt w)
          rw [HTE.out] at HC
          clear HT HTE
          generalize tiedG (xk, xa, xb, xt) (yk, ya, yb, yt) = tb at HC HS
          have hCC : Below wo.heap.size wo wr.drew := hb2.drew
          generalize freeTo l i j = fj at *
          cases fj
          all_goals
            have HS' := HS.out
            go_wp2_with (fail)
            refine wp_region_low (hCC) (by kernel_rfl) (by kernel_rfl) ?_
            repeat (first
              | go_big_quiet_skip
              | (go_big_quiet_want
                 apply Exists.intro
                 refine And.intro (fun W hW => ?_) ?_
                 · (obtain ⟨⟨p0, p1, p2, p3⟩, q0, q1, q2, q3⟩ := hG.out W hW)
                   go_simp
                   first
                     | exact rfl
                     | ((refine (HC W).out.mono ?_; rintro e w1 ⟨rfl, hb1⟩; exact ⟨rfl, bl_call hW hb1⟩))
                 try go_simp
                 go_big_quiet_on))
            refine wpQuiet_nil ?_
            intro w9 hb9
            go_wp2_with (fail)
            go_roundg gj
            case rel => exact ⟨j + 1, by omega, by go_num, by rw [HS']; rfl, hb9⟩
            case measure => omega
end Go.Proofs.Yteoajadcdjaalaa
