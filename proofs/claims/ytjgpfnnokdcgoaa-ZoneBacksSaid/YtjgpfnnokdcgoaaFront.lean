/- append of a row of moves to a new row of one. -/
import Derived.Test.YtjgpfnnokdcgoaaRowM
import Derived.Deep.RegionLaw
namespace Go.Proofs.Ytjgpfnnokdcgoaa
open Go.RowKit Go.Maps

theorem step_append_runT {P : Program} {ops : Array Oper} {o : Oper} {a : Act} {w : World} {K : Act → World → Prop} {Q : Exit → Act → World → Prop} {E : Prop}
    (hg : o.guard = none) (s x : Operand) (t ty : TypeId) (hop : o.op = Op.call { callee := Callee.builtin Builtin.append, args := #[s, x], argTypes := #[t, t] }) (hty : o.type = ty)
    (v1 v2 v' : Value) (W2 : World) (hs : a.eval s = v1) (hx : a.eval x = v2) (hrun : (Builtin.append_ #[t, t] ty #[v1, v2]).run P w = .ok v' W2) (hK : K (a.put o.dst v') W2) :
    if Region.wanted o (yielded ops a.tmps) = true then Oper.wp P o a w K Q else E := by
  have hw : Region.wanted o (yielded ops a.tmps) = true := by simp [Region.wanted, hg]
  rw [if_pos hw]
  unfold Oper.wp execOp
  simp only [hop, hty, resolve, invoke, builtin, Sem.run_bind, Sem.run_pure, Result.andThen_ok, List.map_toArray, List.map_cons, List.map_nil, hs, hx, hrun]
  exact hK

theorem cellsP_one {X : List (Int × Int)} : ∀ u ∈ cellsP X, u.oneCell' = true := fun u hu => by
  rw [cellsP, List.mem_flatMap] at hu
  obtain ⟨a, _, h⟩ := hu
  simp at h
  rcases h with rfl | rfl <;> rfl
/-- What 'append([]api.Move{x}, l...)' leaves. -/
theorem app_front {w : World} {out : Value} {X : List (Int × Int)} {base : Nat} (ho : w.ownsRow base 54 2 out X.length (cellsP X)) (hX : X.length ≤ 1000) (hb : base ≤ w.heap.size) (x y : Int) :
    ∃ v' w', (Builtin.append_ #[37, 37] 37 #[.slice (some ⟨w.heap.size, 0, none⟩) 1 1, out]).run Try.prog ((w.alloc (.cells #[.int .i64 x, .int .i64 y] 54)).drew) = .ok v' w' ∧
      w'.ownsRow base 54 2 v' (X.length + 1) (cellsP ((x, y) :: X)) ∧ Below w.heap.size w w' := by
  obtain ⟨i0, hi, hz0, hz1, hz2⟩ := info_parts move_info
  have hown : ((w.alloc (.cells #[.int .i64 x, .int .i64 y] 54)).drew).ownsRow w.heap.size 54 2 (.slice (some ⟨w.heap.size, 0, none⟩) 1 1) 1 [.int .i64 x, .int .i64 y] :=
    (World.ownsRow_lit (base := w.heap.size) (e := 54) (size := 2) w #[.int .i64 x, .int .i64 y] 1 (Nat.le_refl _) (by unfold maxLen; omega) rfl :)
  have hbd : Below w.heap.size w ((w.alloc (.cells #[.int .i64 x, .int .i64 y] 54)).drew) := (bl_alloc (Below.refl _ _) _).drew
  obtain ⟨A, c, rfl⟩ := own_form ho
  have hr : Rd ((w.alloc (.cells #[.int .i64 x, .int .i64 y] 54)).drew) A (cellsP X) := (own_rd ho).1.later hbd
  by_cases hXe : X = []
  · subst hXe
    rcases ho.2 with ⟨hv, _⟩ | ⟨g, cap, cur, hv, _⟩
    · injection hv with e1 _ e3
      subst e1 e3
      exact ⟨_, _, run_append_owned_none (P := Try.prog) _ w.heap.size 37 37 54 i0 2 Try.underlying37 hi _ 1 _ hown, own_base hown hb, hbd⟩
    · injection hv with e1 _ e3
      subst e1 e3
      obtain ⟨v', w', h1, h2, h3, _⟩ := run_append_own (P := Try.prog) _ w.heap.size 37 37 54 i0 _ 2 16 Try.underlying37 hi hz0 hz1 hz2 rfl (by decide) _ 1 _ hown ⟨g, 0, none⟩ 0 c [] rfl (by intro j u hj; simp at hj) (by intro u hu; cases hu) (by unfold maxLen; omega) (by omega) (by simp)
      exact ⟨v', w', h1, own_base h2 hb, hbd.grown h3 (by simp) (fun k hk => by cases hk; exact Nat.le_refl _)⟩
  · have hX0 : 0 < X.length := List.length_pos_iff.2 hXe
    obtain ⟨b, o, rfl, _, hc⟩ := hr.at_ (k := 0) (by rw [cellsP_length]; omega)
    obtain ⟨v', w', h1, h2, h3, _⟩ := run_append_own (P := Try.prog) _ w.heap.size 37 37 54 i0 _ 2 16 Try.underlying37 hi hz0 hz1 hz2 rfl (by decide) _ 1 _ hown ⟨b, o, none⟩ X.length c (cellsP X) (cellsP_length X) (fun j u hj => by
      have hadd : (⟨b, o, none⟩ : Addr).add j = ⟨b, o + j, none⟩ := by unfold Addr.add; split <;> simp_all
      rw [hadd]; exact hc j u hj) cellsP_one (by unfold maxLen; omega) (by omega) (by simp)
    refine ⟨v', w', h1, ?_, hbd.grown h3 (by simp) (fun k hk => by cases hk; exact Nat.le_refl _)⟩
    rw [Nat.add_comm] at h2
    exact own_base h2 hb
end Go.Proofs.Ytjgpfnnokdcgoaa
