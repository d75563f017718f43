/- Which circuits are short: mathematics, and the document's IsShort. -/
import Derived.Test.YteoajadcdjaalaaMeet
namespace Go.Proofs.Yteoajadcdjaalaa
open Go.RowKit

theorem short_len : ∀ (k : Nat) (l : List G), l.length = k → (shortL l).length = l.length → shortL l = l
  | 0, l, h, _ => by rw [List.length_eq_zero_iff.1 h]; rfl
  | k + 1, l, h, he => by
    rcases List.eq_nil_or_concat l with rfl | ⟨m, g, rfl⟩
    · simp at h
    · have e2 : (m.concat g) = m ++ [g] := by simp
      rw [e2] at h he ⊢
      have e : shortL (m ++ [g]) = withL (shortL m) g := by unfold shortL; rw [List.foldl_append]; rfl
      have h1 := shortL_len m
      rw [e] at he ⊢
      rcases with_split (c := shortL m) (g := g) with ⟨p, x, s, hp, hk, hu⟩ | hw
      · exfalso
        have h2 : (withL (shortL m) g).length ≤ (shortL m).length := by
          rw [hp, with_merge hk hu]
          unfold mrg
          split <;> simp
        simp at he; omega
      · rw [hw] at he ⊢
        rw [short_len k m (by simpa using h) (by simp at he; omega)]
theorem no_meet_short {l : List G} (h : ∀ i, i < l.length → NoMeetAt l i) : shortL l = l := by
  have key : ∀ k, k ≤ l.length → shortL (l.take k) = l.take k := by
    intro k
    induction k with
    | zero => intro _; simp [shortL]
    | succ k ih =>
      intro hk
      have ht : l.take (k + 1) = l.take k ++ [l.getD k g0] := by rw [List.take_succ_eq_append_getElem hk]; simp [show k < l.length by omega]
      rw [shortL_succ hk, ih (by omega), ht]
      rcases with_split (c := l.take k) (g := l.getD k g0) with ⟨p, x, s, hp, hkx, hu⟩ | hw
      · exfalso
        have hpl : p.length + 1 + s.length = k := by
          have := congrArg List.length hp
          simp at this; omega
        have hat : ∀ j, j < k → l.getD j g0 = (p ++ x :: s).getD j g0 := fun j hj => by
          rw [← hp]; simp [hj]
        have hx : l.getD p.length g0 = x := by
          rw [hat _ (by omega), List.getD_eq_getElem?_getD, List.getElem?_append_right (Nat.le_refl _), Nat.sub_self]; rfl
        obtain ⟨j, hj1, hj2, hj3⟩ := h p.length (by omega) k (by omega) (by omega) (by rw [hx]; exact hkx)
        have hjs : l.getD j g0 ∈ s := by
          rw [hat j hj2, List.getD_eq_getElem?_getD, List.getElem?_append_right (by omega)]
          obtain ⟨d, hd⟩ : ∃ d, j - p.length = d + 1 := ⟨j - p.length - 1, by omega⟩
          rw [hd, List.getElem?_cons_succ, List.getElem?_eq_getElem (by omega)]
          exact List.getElem_mem _
        have h1 := hu _ hjs
        rw [hx, tiedG_symm, tiedG_key' hkx, h1] at hj3
        cases hj3
      · exact hw
  have := key l.length (Nat.le_refl _)
  rwa [List.take_length] at this
/-- The parts of a circuit in which two gates meet. -/
theorem meet_split {l : List G} {i k : Nat} (h : MeetAt l i k) : ∃ p q s x y, l = p ++ x :: (q ++ y :: s) ∧ p.length = i ∧ p.length + 1 + q.length = k ∧ x = l.getD i g0 ∧ y = l.getD k g0 ∧ keyG x = keyG y ∧ Unt q x := by
  obtain ⟨h1, h2, h3, h4⟩ := h
  have hi : i < l.length := by omega
  have hx : l.getD i g0 = l[i] := by simp [hi]
  have hy : l.getD k g0 = l[k] := by simp [h2]
  refine ⟨l.take i, (l.drop (i + 1)).take (k - (i + 1)), l.drop (k + 1), l[i], l[k], ?_, by simp; omega, by simp; omega, hx.symm, hy.symm, by rw [← hx, ← hy]; exact h3, fun z hz => ?_⟩
  · have e1 : l.drop (i + 1) = (l.drop (i + 1)).take (k - (i + 1)) ++ l.drop k := by
      have := List.take_append_drop (k - (i + 1)) (l.drop (i + 1))
      rw [List.drop_drop, show i + 1 + (k - (i + 1)) = k by omega] at this
      exact this.symm
    have e2 : l.drop k = l[k] :: l.drop (k + 1) := List.drop_eq_getElem_cons h2
    rw [← e2, ← e1, ← List.drop_eq_getElem_cons hi, List.take_append_drop]
  · obtain ⟨j, hj, rfl⟩ := List.mem_iff_getElem.1 hz
    have hj' : j < k - (i + 1) := by simp at hj; omega
    have := h4 (i + 1 + j) (by omega) (by omega)
    have e : l.getD (i + 1 + j) g0 = ((l.drop (i + 1)).take (k - (i + 1)))[j] := by simp [show i + 1 + j < l.length by omega]
    rw [← e, tiedG_symm, ← hx]
    exact this
theorem meet_not {l : List G} {i k : Nat} (h : MeetAt l i k) : (shortL l).length ≠ l.length := by
  intro he
  have hs := short_len l.length l rfl he
  have hsh : Sh l := by rw [← hs]; exact short_sh l
  obtain ⟨p, q, s, x, y, hl, _, _, _, _, hk, hu⟩ := meet_split h
  refine hsh (p ++ q) s x y hk ?_
  rw [hl]
  have h1 : alkL (x :: (q ++ y :: s)) (q ++ [x] ++ y :: s) := by
    have := alk_app_r (alk_move hu) (y :: s)
    simpa using this
  have h2 := alk_app_l p h1
  simpa using h2
theorem meetIs_short {l : List G} {i k : Nat} {b : Bool} (h : MeetIs l i k b) : (!b) = ((shortL l).length == l.length) := by
  rcases h with ⟨rfl, h⟩ | ⟨rfl, h⟩
  · have := meet_not h
    simp [this]
  · rw [no_meet_short h]; simp

theorem setW_gate {n : Int} {x g : G} (hx : gateB n x = true) (h : sumW x g ≠ 0) : gateB n (setW x g) = true := by
  obtain ⟨k, a, b, t⟩ := x
  have hr : 0 ≤ sumW (k, a, b, t) g ∧ sumW (k, a, b, t) g < 16 := by simp only [sumW]; omega
  show isGateB n k a b (sumW (k, a, b, t) g) = true
  have hx' : isGateB n k a b t = true := hx
  generalize sumW (k, a, b, t) g = z at *
  unfold isGateB at *
  rw [Bool.and_eq_true] at hx' ⊢
  exact ⟨by simp; omega, hx'.2⟩
theorem with_gates {n : Int} {c : List G} {g : G} (h : ∀ x ∈ c, gateB n x = true) (hg : gateB n g = true) : ∀ x ∈ withL c g, gateB n x = true := by
  rcases with_split (c := c) (g := g) with ⟨p, x, s, rfl, hk, hu⟩ | hw
  · rw [with_merge hk hu]
    intro z hz
    simp only [List.mem_append] at hz
    rcases hz with (hz | hz) | hz
    · exact h z (by simp [hz])
    · unfold mrg at hz
      split at hz
      · cases hz
      · rename_i h0
        rw [List.mem_singleton.1 hz]
        exact setW_gate (h x (by simp)) h0
    · exact h z (by simp [hz])
  · rw [hw]
    intro z hz
    rcases List.mem_append.1 hz with hz | hz
    · exact h z hz
    · rw [List.mem_singleton.1 hz]; exact hg
theorem fold_gates {n : Int} : ∀ (l c : List G), (∀ x ∈ l, gateB n x = true) → (∀ x ∈ c, gateB n x = true) → ∀ x ∈ l.foldl withL c, gateB n x = true
  | [], _, _, h => h
  | g :: l, c, hl, h => by rw [List.foldl_cons]; exact fold_gates l _ (fun x hx => hl x (by simp [hx])) (with_gates h (hl g (by simp)))
theorem validE_of {n : Int} {l : List G} (h : validE n l = 0) {m : List G} (hl : m.length ≤ l.length) (hm : ∀ x ∈ m, gateB n x = true) : validE n m = 0 := by
  obtain ⟨h10, _, _⟩ := gatesE_ang h
  have hn : inB n 1 4 = true := inB_z.2 (validE_n h)
  rw [validE, hn, if_pos rfl, if_pos (by omega), gatesE, List.all_eq_true.2 hm]
  rfl
theorem validE_gates {n : Int} {l : List G} (h : validE n l = 0) : ∀ x ∈ l, gateB n x = true := by
  obtain ⟨_, _, h3⟩ := gatesE_ang h
  exact List.all_eq_true.1 h3
/-- What is left of a right circuit is one. -/
theorem validE_red {n : Int} {l : List G} (h : validE n l = 0) : validE n (reducedL l) = 0 := by
  have h1 : validE n (shortL l) = 0 := validE_of h (shortL_len l) (fold_gates l [] (validE_gates h) (by simp))
  rw [reducedL, validE_perm (name_perm _)]; exact h1
theorem red_len (l : List G) : (reducedL l).length = (shortL l).length := nameL_len _

set_option maxRecDepth 100000 in
theorem rIsShort_c (n : Int) (A : Option Addr) (l : List G) (c : Nat) (w : World) (hlen : l.length ≤ 1000) (hr : Rd w A (cellsG l)) :
    Calls Try.prog 40 #[.int .i64 n, .slice A l.length c] w fun e w' => e = .returned (.tuple #[.bool (isShortB n l), .int .i64 (validE n l)]) ∧ Below w.heap.size w w' := by
  have HV := Lib.hid (rvalidate_c n A l c w hlen hr)
  by_cases hv : validE n l = 0
  · have HS := fun (w1 : World) (h : Rd w1 A (cellsG l)) => Lib.hid (meeting_c A l c w1 hlen (validE_gs hv) h)
    have HB : Hid (isShortB n l = ((shortL l).length == l.length)) := by show _ = _; rw [isShortB, hv]; simp
    rw [hv] at HV
    rw [hv]
    go_enter Try.func40, Try.ntmps40
    go_wp2_with (go_at_call 25; refine HV.out.mono ?_; rintro e w1 ⟨rfl, hb1⟩)
    refine (HS _ (hr.later hb1)).out.mono ?_
    rintro e w2 ⟨i, k, b, rfl, hm, hb2⟩
    have hb := Lib.hid (meetIs_short hm)
    clear hm
    go_wp2_with (fail)
    go_ret2
    exact ⟨by rw [HB.out, ← hb.out]; rfl, bl_call hb1 hb2⟩
  · have HB : Hid (isShortB n l = false) := by show _ = _; simp [isShortB, hv]
    generalize validE n l = ev at hv HV
    go_enter Try.func40, Try.ntmps40
    go_wp2_with (go_at_call 25; refine HV.out.mono ?_; rintro e w1 ⟨rfl, hb1⟩)
    go_ret2
    exact ⟨by rw [HB.out]; rfl, hb1⟩
end Go.Proofs.Yteoajadcdjaalaa
