/- The document's name. -/
import Derived.Test.YteoajadcdjaalaaRwith
import Derived.Test.YteoajadcdjaalaaRpair
namespace Go.Proofs.Yteoajadcdjaalaa
open Go.RowKit

/-- The best of a list of places. -/
def rbL (m : List G) (F : List Int) : Int := F.foldl (fun b x => if ltG (m.getD x.toNat g0) (m.getD b.toNat g0) then x else b) 0
theorem rbL_snoc (m : List G) (F : List Int) (x : Int) : rbL m (F ++ [x]) = if ltG (m.getD x.toNat g0) (m.getD (rbL m F).toNat g0) then x else rbL m F := by
  unfold rbL
  rw [List.foldl_append]
  rfl
theorem rbL_bst (m : List G) : ∀ k, rbL m (frTo m (k + 1)) = (bstTo m k : Int)
  | 0 => by
    have h : frTo m 1 = [0] := by rw [frTo, freeB_zero]; rfl
    rw [h]; simp [rbL, bstTo]
  | k + 1 => by
    have ih := rbL_bst m k
    rw [frTo, bstTo]
    by_cases hf : freeB m (k + 1) = true
    · rw [if_pos hf, rbL_snoc, ih]
      simp only [Int.toNat_natCast, hf, Bool.and_true]
      split <;> simp
    · have hf' : freeB m (k + 1) = false := by simpa using hf
      rw [if_neg hf, ih, hf']; simp
theorem rbL_all {m : List G} (h : m ≠ []) : rbL m (frTo m m.length) = (bstL m : Int) := by
  have := List.length_pos_iff.2 h
  rw [bstL, ← rbL_bst, show m.length - 1 + 1 = m.length by omega]
theorem frTo_range (m : List G) : ∀ k, ∀ x ∈ frTo m k, 0 ≤ x ∧ x < (k : Int)
  | 0, x, h => by simp [frTo] at h
  | k + 1, x, h => by
    have ih := frTo_range m k
    rw [frTo] at h
    split at h
    · rcases List.mem_append.1 h with h | h
      · have := ih x h; omega
      · rw [List.mem_singleton.1 h]; omega
    · have := ih x h; omega
theorem rbL_range (m : List G) (n : Nat) (F : List Int) (h : ∀ x ∈ F, 0 ≤ x ∧ x < (n : Int)) (hn : 0 < n) : 0 ≤ rbL m F ∧ rbL m F < (n : Int) := by
  have key : ∀ (F : List Int) (b : Int), (∀ x ∈ F, 0 ≤ x ∧ x < (n : Int)) → 0 ≤ b ∧ b < (n : Int) → 0 ≤ F.foldl (fun b x => if ltG (m.getD x.toNat g0) (m.getD b.toNat g0) then x else b) b ∧ F.foldl (fun b x => if ltG (m.getD x.toNat g0) (m.getD b.toNat g0) then x else b) b < (n : Int) := by
    intro F
    induction F with
    | nil => intro b _ hb; exact hb
    | cons y t ih =>
      intro b hF hb
      rw [List.foldl_cons]
      refine ih _ (fun x hx => hF x (by simp [hx])) ?_
      split
      · exact hF y (by simp)
      · exact hb
  exact key F 0 h (by omega)
theorem frTo_first {m : List G} (h : m ≠ []) : 0 < (frTo m m.length).length ∧ (frTo m m.length).getD 0 0 = 0 := by
  have hp := List.length_pos_iff.2 h
  have key : ∀ k, 0 < (frTo m (k + 1)).length ∧ (frTo m (k + 1)).getD 0 0 = 0 := by
    intro k
    induction k with
    | zero => have h : frTo m 1 = [0] := by rw [frTo, freeB_zero]; rfl
              rw [h]; simp
    | succ k ih =>
      rw [frTo]
      split
      · refine ⟨by simp, ?_⟩
        rw [List.getD_eq_getElem?_getD, List.getElem?_append_left ih.1, ← List.getD_eq_getElem?_getD]; exact ih.2
      · exact ih
  have := key (m.length - 1)
  rwa [show m.length - 1 + 1 = m.length by omega] at this
theorem rbL_one (m : List G) (F : List Int) (h0 : 0 < F.length) (h : F.getD 0 0 = 0) : rbL m (F.take 1) = 0 := by
  cases F with
  | nil => simp at h0
  | cons x t =>
    have hx : x = 0 := by simpa using h
    subst hx
    simp [rbL]
theorem rbL_take (m : List G) (F : List Int) {j : Nat} (h : j < F.length) : rbL m (F.take (j + 1)) = if ltG (m.getD (F.getD j 0).toNat g0) (m.getD (rbL m (F.take j)).toNat g0) then F.getD j 0 else rbL m (F.take j) := by
  have ht : F.take (j + 1) = F.take j ++ [F.getD j 0] := by rw [List.take_succ_eq_append_getElem h]; simp [h]
  rw [ht, rbL_snoc]

theorem Gs.erase {l : List G} (h : Gs l) (i : Nat) : Gs (l.eraseIdx i) := fun x hx => h x (List.mem_of_mem_eraseIdx hx)

theorem own_cap {w : World} {base e size n c : Nat} {A : Option Addr} {xs : List Value} (h : w.ownsRow base e size (.slice A n c) n xs) : n ≤ c := by
  rcases h.2 with ⟨h0, _⟩ | ⟨g, cap, cur, hv, _, _, hle, _, _, _⟩
  · injection h0 with _ h1 h2; omega
  · injection hv with _ _ h2; omega

set_option maxRecDepth 100000 in
set_option maxHeartbeats 1000000 in
theorem rname_c (A : Option Addr) (l : List G) (c : Nat) (w : World) (hlen : l.length ≤ 1000) (hcap : l.length ≤ c) (hg : Gs l) (hr : Rd w A (cellsG l)) :
    Calls Try.prog 65 #[.slice A l.length c] w fun e w' => ∃ A' c', e = .returned (.slice A' l.length c') ∧ w'.ownsRow w.heap.size 23 4 (.slice A' l.length c') l.length (cellsG (nmTo l.length l)) ∧ Below w.heap.size w w' := by
  obtain ⟨i0, hi, hz0, hz1, hz2⟩ := info_parts gate_info
  go_enter Try.func65, Try.ntmps65
  go_wp2_with (fail)
  go_loopg [0, 3] l.length (fun gk cv ov wr => ∃ (m out : List G) (A' : Option Addr) (c' : Nat), Hid (m.length = gk) ∧ Hid (out.length + gk = l.length) ∧ m.length ≤ c' ∧ Gs m ∧ cv = .slice A' m.length c' ∧ Hid (nmTo l.length l = out ++ nmTo m.length m) ∧ wr.ownsRow w.heap.size 23 4 ov out.length (cellsG out) ∧ Rd wr A' (cellsG m) ∧ Hid (∀ a, A' = some a → ∀ k, ov.ownBlock = some k → a.block ≠ k) ∧ Below w.heap.size w wr)
  case atStart => exact ⟨l, [], A, c, rfl, by simp [Hid], hcap, hg, rfl, rfl, World.ownsRow_nil _ _ _ _, hr, (fun a _ k h => by cases h), Below.refl _ _⟩
  case round =>
    obtain ⟨m, out, A', c', HM, HOL, hmc, hgs, rfl, HN, hown, hrm, HDis, hb⟩ := hrel
    obtain ⟨B, d, rfl⟩ := own_form hown
    rcases gk with _ | gi
    · have hm0 : m = [] := List.length_eq_zero_iff.1 HM.out
      subst hm0
      have HN' : Hid (nmTo l.length l = out) := by have h := HN.out; show _ = _; rw [h]; simp [nmTo]
      have HOL' : Hid (out.length = l.length) := by have h := HOL.out; show _ = _; omega
      go_wp2_with (fail)
      go_ret
      exact ⟨B, d, by rw [← HOL'.out]; rfl, by rw [HN'.out, ← HOL'.out]; exact hown, hb⟩
    · have hm1 : m ≠ [] := by rintro rfl; have h := HM.out; simp at h
      have hml : 0 < m.length := List.length_pos_iff.2 hm1
      have hml' : (0 : Int) < (m.length : Int) := by omega
      have hmle : m.length ≤ 1000 := by have h := HM.out; have h2 := HOL.out; omega
      have hole : out.length ≤ 1000 := by have h2 := HOL.out; omega
      have HF := Lib.hid (rfirsts_c A' m c' wr hmle hgs hrm)
      have HR := Lib.hid (frTo_range m m.length)
      have HA := Lib.hid (rbL_all hm1)
      obtain ⟨hf0, hf1⟩ := frTo_first hm1
      have HB0 := Lib.hid (rbL_one m (frTo m m.length) hf0 hf1)
      have HT := fun j h => Lib.hid (@rbL_take m (frTo m m.length) j h)
      have hfl := frTo_len m m.length
      generalize frTo m m.length = F at *
      clear hm1
      obtain ⟨wo, rfl⟩ : ∃ wo : World, wo = wr := ⟨_, rfl⟩
      go_wp2_with (fail)
      refine HF.out.mono ?_
      rintro e w1 ⟨A1, c1, rfl, ho1, hb1⟩
      have hrF := (own_rd ho1).1
      obtain ⟨b1, o1, rfl, hbl1, hcF⟩ := hrF.at_ (k := 0) (by simpa using hf0)
      have hc0 := hcF 0 _ (ints_get hf0)
      rw [hf1, Nat.add_zero] at hc0
      have hf0' : (0 : Int) < (F.length : Int) := by omega
      have hbb := bl_call hb hb1
      have hrm1 := hrm.later hb1
      have ho2 := own_call hown hb1
      have HcF : Hid (∀ w2, Below w1.heap.size w1 w2 → ∀ j, j < F.length → w2.cell? ⟨b1, o1 + j, none⟩ = some (.int .i64 (F.getD j 0))) := fun w2 h2 j hj => (h2.cell (p := ⟨b1, o1 + j, none⟩) hbl1).trans (hcF j _ (ints_get hj))
      clear hcF HF
      go_wp2_with (fail)
      go_loopg [5, 6] (F.length - 1) (fun gk bv jv wi => ∃ j : Nat, Hid (j + gk = F.length) ∧ 1 ≤ j ∧ jv = .int .i64 (j : Int) ∧ bv = .int .i64 (rbL m (F.take j)) ∧ Below w1.heap.size w1 wi)
      case atStart => exact ⟨1, by show _ = _; omega, by omega, rfl, by rw [HB0.out], Below.refl _ _⟩
      case round =>
        obtain ⟨j, HJ, hj1, rfl, rfl, hb3⟩ := hrel
        rcases gk with _ | gj
        · obtain rfl : j = F.length := HJ.out
          have hm1 : m ≠ [] := List.length_pos_iff.1 hml
          have hbl := bstL_lt hm1
          rw [List.take_length, HA.out]
          have ho3 := own_call ho2 hb3
          have hrm3 := hrm1.later hb3
          have hb13 := bl_call hbb hb3
          have HW := fun w1 h1 => Lib.hid (without_c A' m c' (bstL m) w1 hmle hmc hbl h1)
          have HGe := Lib.hid (hgs.erase (bstL m))
          have HEL : Hid ((m.eraseIdx (bstL m)).length = gi) := by show _ = _; rw [List.length_eraseIdx, if_pos hbl, HM.out]; omega
          have HN2 : Hid (nmTo l.length l = (out ++ [m.getD (bstL m) g0]) ++ nmTo (m.eraseIdx (bstL m)).length (m.eraseIdx (bstL m))) := by
            show _ = _
            rw [HN.out, HM.out, nmTo, HEL.out, List.append_assoc]; rfl
          have hbl' : ((bstL m : Nat) : Int) < (m.length : Int) := by omega
          clear HA HB0 HT HR HN hm1
          generalize bstL m = q at *
          generalize m.eraseIdx q = m' at *
          obtain ⟨b2, o2, rfl, hG⟩ := gate_at hrm3 hbl
          obtain ⟨d0, d1, d2, d3⟩ := hG.out _ (Below.refl _ _)
          generalize m.getD q g0 = x at *
          obtain ⟨xk, xa, xb, xt⟩ := x
          simp only [] at d0 d1 d2 d3
          have hrd3 : Rd (wr.alloc (.cells #[.int .i64 xk, .int .i64 xa, .int .i64 xb, .int .i64 xt] 23)) (some ⟨wr.heap.size, 0, none⟩) (cellsG [(xk, xa, xb, xt)]) := Bx.rd (cs := [.int .i64 xk, .int .i64 xa, .int .i64 xb, .int .i64 xt]) (Bx.new wr 23 _)
          have hb4 := bl_alloc hb13 (.cells #[.int .i64 xk, .int .i64 xa, .int .i64 xb, .int .i64 xt] 23)
          have hrm4 := hrm3.later (bl_alloc (Below.refl _ _) (.cells #[.int .i64 xk, .int .i64 xa, .int .i64 xb, .int .i64 xt] 23))
          go_wp2_with (at_builtin; refine wpList_append_any rfl _ _ 29 rfl w.heap.size 23 i0 _ 32 Try.underlying29 hi hz0 hz1 hz2 rfl _ out.length (cellsG out) rfl (ho3.alloc _) (some ⟨wr.heap.size, 0, none⟩) [(xk, xa, xb, xt)] 1 rfl hrd3 (by unfold maxLen; simp; omega) (by simp; omega) hb4.size ?_)
          intro A5 c5 w5 hown5 hg5
          have hb5 := hb4.trans (grown_below (ho3.alloc _) hg5 hb4.size)
          have hrm5 := hrm4.mod (Mod.grown (Mod.refl (fun k => (Value.slice B out.length d).ownBlock = some k) _) hg5 (fun k e => .inr e)) (fun a ha _ _ hS => HDis.out a ha a.block hS rfl)
          have hown6 : Hid (w5.ownsRow w.heap.size 23 4 (.slice A5 (out.length + [(xk, xa, xb, xt)].length) c5) (out ++ [(xk, xa, xb, xt)]).length (cellsG (out ++ [(xk, xa, xb, xt)]))) := by
            show World.ownsRow _ _ _ _ _ _ _
            rw [cellsG_append, List.length_append]; exact hown5
          have HW5 := HW _ hrm5
          clear hown5 hg5 ho3 d0 d1 d2 d3 HW hG
          go_wp2_with (fail)
          refine HW5.out.mono ?_
          rintro e w6 ⟨A6, c6, rfl, ho6, hb6⟩
          go_wp2_with (fail)
          go_roundg gi
          case rel =>
            refine ⟨m', out ++ [(xk, xa, xb, xt)], A6, c6, HEL, ?_, own_cap ho6, HGe.out, rfl, HN2, own_call hown6.out hb6, (own_rd ho6).1, fun a ha k hk => ?_, bl_call hb5 hb6⟩
            · show _ = _
              have h := HOL.out
              simp; omega
            · have h1 := (own_rd ho6).2 a ha
              have h2 := (hown6.out.lt k hk).2
              omega
          case measure => omega
        · have hjF : j < F.length := by have h := HJ.out; omega
          have hjF' : (j : Int) < (F.length : Int) := by omega
          have hx := HR.out (F.getD j 0) (by simp [hjF])
          have hrb := rbL_range m m.length (F.take j) (fun x hx => HR.out x (List.mem_of_mem_take hx)) hml
          have hrm3 := hrm1.later hb3
          obtain ⟨X, hX⟩ : ∃ X : Nat, F.getD j 0 = (X : Int) := ⟨(F.getD j 0).toNat, by omega⟩
          obtain ⟨Y, hY⟩ : ∃ Y : Nat, rbL m (F.take j) = (Y : Int) := ⟨(rbL m (F.take j)).toNat, by omega⟩
          have HcJ : Hid (∀ w2, Below w1.heap.size w1 w2 → w2.cell? ⟨b1, o1 + j, none⟩ = some (.int .i64 (X : Int))) := fun w2 h2 => by rw [← hX]; exact HcF.out w2 h2 j hjF
          have HS : Hid (rbL m (F.take (j + 1)) = if ltG (m.getD X g0) (m.getD Y g0) then (X : Int) else (Y : Int)) := by
            show _ = _
            rw [rbL_take m F hjF, hX, hY]; rfl
          rw [hX] at hx
          rw [hY] at hrb
          rw [hY]
          clear hX hY HcF HT HR HB0 HA
          have hXl : X < m.length := by omega
          have hYl : Y < m.length := by omega
          have hXl' : (X : Int) < (m.length : Int) := by omega
          have hYl' : (Y : Int) < (m.length : Int) := by omega
          have hX0 : (0 : Int) ≤ (X : Int) := by omega
          have hY0 : (0 : Int) ≤ (Y : Int) := by omega
          have HG1 := gate_at hrm1 hXl
          have HG2 := gate_at hrm1 hYl
          obtain ⟨b2, o2, rfl, hG1⟩ := HG1
          obtain ⟨b2', o2', he, hG2⟩ := HG2
          injection he with he
          injection he with he1 he2
          subst he1 he2
          have HBf := fun k a b t k' a' b' t' w => Lib.hid (before_c k a b t k' a' b' t' w)
          generalize m.getD X g0 = x at *
          generalize m.getD Y g0 = y at *
          obtain ⟨xk, xa, xb, xt⟩ := x
          obtain ⟨yk, ya, yb, yt⟩ := y
          simp only [] at hG1 hG2
          have HC := HBf xk xa xb xt yk ya yb yt
          clear HBf
          generalize ltG (xk, xa, xb, xt) (yk, ya, yb, yt) = tb at HC HS
          have hCC : Below w1.heap.size w1 wr.drew := hb3.drew
          have hc1 := HcJ.out wr hb3
          obtain ⟨d0, d1, d2, d3⟩ := hG1.out wr hb3
          obtain ⟨e0, e1, e2, e3⟩ := hG2.out wr hb3
          cases tb
          all_goals
            have HS' := HS.out
            have HS2 := Lib.hid HS'
            clear HS' HS
            go_wp2_with (fail)
            refine wp_region_low (hCC) (by kernel_rfl) (by kernel_rfl) ?_
            repeat (first
              | go_big_quiet_skip
              | (go_big_quiet_want
                 apply Exists.intro
                 refine And.intro (fun W hW => ?_) ?_
                 · (have p0 := HcJ.out W hW; obtain ⟨q0, q1, q2, q3⟩ := hG1.out W hW; obtain ⟨r0, r1, r2, r3⟩ := hG2.out W hW)
                   go_simp
                   first
                     | exact rfl
                     | ((refine (HC W).out.mono ?_; rintro e w1 ⟨rfl, hb1⟩; exact ⟨rfl, bl_call hW hb1⟩))
                 try go_simp
                 go_big_quiet_on))
            refine wpQuiet_nil ?_
            intro w9 hb9
            have p9 := HcJ.out w9 hb9
            go_wp2_with (fail)
            go_roundg gj
            case rel => exact ⟨j + 1, by have h := HJ.out; show _ = _; omega, by omega, by go_num, by rw [HS2.out]; rfl, hb9⟩
            case measure => omega
end Go.Proofs.Yteoajadcdjaalaa
