/- Which choices are valid: package budget's validateChoice and the document's chosen. -/
import Derived.Test.YtgbjglkiaoplmaaTwo
import Derived.Test.YtgbjglkiaoplmaaVal
namespace Go.Proofs.Ytgbjglkiaoplmaa
open Go.RowKit

def okK (fs : List Fx) (c : List Int) (k : Nat) : Bool := decide (0 ≤ c.getD k 0 ∧ c.getD k 0 < fs.length) && (decide (k = 0) || decide (c.getD (k - 1) 0 < c.getD k 0))
theorem asc_all {fs : List Fx} {c : List Int} : ∀ {k : Nat}, (∀ j, j < k → okK fs c j = true) → ascB fs c k = true
  | 0, _ => rfl
  | k + 1, h => by
    have h1 := asc_all (k := k) (fun j hj => h j (by omega))
    have h2 := h k (by omega)
    show (ascB fs c k && okK fs c k) = true
    rw [h1, h2]; rfl
theorem asc_not {fs : List Fx} {c : List Int} {k : Nat} (h : okK fs c k = false) : ∀ {n : Nat}, k < n → ascB fs c n = false
  | n + 1, hk => by
    show (ascB fs c n && okK fs c n) = false
    rcases Nat.lt_or_ge k n with h' | h'
    · rw [asc_not h h']; rfl
    · have : k = n := by omega
      subst this
      rw [h, Bool.and_false]
theorem cho_1 {fs : List Fx} {c : List Int} {k : Nat} (hk : k < c.length) (h : okK fs c k = false) : choE fs c = 1 := by
  unfold choE; rw [asc_not h hk]; rfl
theorem cho_2 {fs : List Fx} {c : List Int} (h : ∀ j, j < c.length → okK fs c j = true) : choE fs c = if diffB fs c c.length = true then 0 else 6 := by
  unfold choE; rw [asc_all h]; rfl
theorem okK_in {fs : List Fx} {c : List Int} {k : Nat} (h : okK fs c k = true) : 0 ≤ c.getD k 0 ∧ c.getD k 0 < fs.length := by
  unfold okK at h
  rw [Bool.and_eq_true, decide_eq_true_eq] at h; exact h.1
set_option maxRecDepth 100000 in
set_option maxHeartbeats 4000000 in
theorem validateChoice_c (B : Option Addr) (fs : List Fx) (cap : Nat) (C : Option Addr) (c : List Int) (cap2 : Nat) (w : World) (hlen : c.length ≤ 1000)
    (hi : ∀ k, k < fs.length → 0 ≤ (fs.getD k fx0).i ∧ (fs.getD k fx0).i < 6) (hf : Rd w B (cellsF fs)) (hr : Rd w C (ints c)) :
    Calls Try.prog 77 #[.slice B fs.length cap, .slice C c.length cap2] w fun e w' => e = .returned (.int .i64 (choE fs c)) ∧ Below w.heap.size w w' := by
  have HT := Lib.hid (fun w1 (hc : ∀ k, k < c.length → 0 ≤ c.getD k 0 ∧ c.getD k 0 < fs.length) hf hr => hasTwo_c B fs cap C c cap2 w1 hlen hc hi hf hr)
  have H1 := Lib.hid (fun k (hk : k < c.length) h => @cho_1 fs c k hk h)
  have H2 := Lib.hid (@cho_2 fs c)
  have HO : Hid (∀ k, okK fs c k = (decide (0 ≤ c.getD k 0 ∧ c.getD k 0 < fs.length) && (decide (k = 0) || decide (c.getD (k - 1) 0 < c.getD k 0)))) := fun k => rfl
  have HIn := Lib.hid (fun k => @okK_in fs c k)
  generalize choE fs c = E at *
  clear hi
  go_enter Try.func77, Try.ntmps77
  go_wp2_with (fail)
  go_loopg [9] c.length (fun gk iv wr => ∃ k : Nat, Hid (k + gk = c.length) ∧ iv = .int .i64 (k : Int) ∧ Hid (∀ j, j < k → okK fs c j = true) ∧ Below w.heap.size w wr)
  case atStart => exact ⟨0, by simp [Hid], rfl, fun j h => absurd h (by omega), Below.refl _ _⟩
  case round =>
    obtain ⟨k, HK, rfl, HP, hb⟩ := hrel
    rcases gk with _ | gi
    · obtain rfl : k = c.length := HK.out
      have H2a := H2.out HP.out
      have HTa := Lib.hid (HT.out wr (fun j hj => HIn.out j (HP.out j hj)) (hf.later hb) (hr.later hb))
      cases hz : diffB fs c c.length with
      | true =>
        rw [hz] at HTa H2a
        have hE := Lib.hid (H2a.trans (if_pos rfl))
        clear hz H2a
        go_wp2_with (fail)
        refine HTa.out.mono ?_
        rintro e w2 ⟨rfl, hb2⟩
        go_wp2_with (fail)
        go_ret
        exact ⟨ret_i hE.out, bl_call hb hb2⟩
      | false =>
        rw [hz] at HTa H2a
        have hE := Lib.hid (H2a.trans (if_neg (by decide)))
        clear hz H2a
        go_wp2_with (fail)
        refine HTa.out.mono ?_
        rintro e w2 ⟨rfl, hb2⟩
        go_wp2_with (fail)
        go_ret
        exact ⟨ret_i hE.out, bl_call hb hb2⟩
    · have hkl : k < c.length := by have := HK.out; omega
      have hkl' : (k : Int) < (c.length : Int) := by omega
      obtain ⟨b, o, hA, _, c0⟩ := (hr.later hb).one hkl
      have HOk := HO.out k
      have HE : Hid (okK fs c k = false → E = 1) := fun h => H1.out k hkl h
      have HG : Hid (okK fs c k = true → ∀ j, j < k + 1 → okK fs c j = true) := fun h j hj => by
        rcases Nat.lt_or_ge j k with x | x
        · exact HP.out j x
        · obtain rfl : j = k := by omega
          exact h
      by_cases h1 : c.getD k 0 < 0
      · have hz : okK fs c k = false := by rw [HOk, decide_eq_false (by omega)]; rfl
        have hE := Lib.hid (HE.out hz)
        clear hz HOk
        generalize c.getD k 0 = x at *
        subst hA
        go_wp2_with (fail)
        go_ret
        exact ⟨ret_i hE.out, hb⟩
      · by_cases h2 : (fs.length : Int) ≤ c.getD k 0
        · have hz : okK fs c k = false := by rw [HOk, decide_eq_false (by omega)]; rfl
          have hE := Lib.hid (HE.out hz)
          clear hz HOk
          generalize c.getD k 0 = x at *
          subst hA
          go_wp2_with (fail)
          go_ret
          exact ⟨ret_i hE.out, hb⟩
        · have h12 : 0 ≤ c.getD k 0 ∧ c.getD k 0 < fs.length := by omega
          rcases k with _ | j
          · have hz : okK fs c 0 = true := by rw [HOk, decide_eq_true h12]; rfl
            have hG := Lib.hid (HG.out hz)
            rw [Nat.add_zero] at c0
            clear hz HOk h12
            generalize c.getD 0 0 = x at *
            subst hA
            go_wp2_with (fail)
            go_roundg gi
            case rel => exact ⟨0 + 1, by have := HK.out; show _ = _; omega, by go_num, hG.out, hb⟩
            case measure => omega
          · have hjl : j < c.length := by omega
            have hjl' : (j : Int) < (c.length : Int) := by omega
            obtain ⟨b', o', hA', _, c1⟩ := (hr.later hb).one hjl
            have hA'2 := hA'
            rw [hA] at hA'2
            cases hA'2
            rw [show j + 1 - 1 = j from rfl] at HOk
            have hw : wrap64 (((j + 1 : Nat) : Int) - 1) = (j : Int) := by rw [show (((j + 1 : Nat) : Int) - 1) = (j : Int) by omega]; exact IntWalk.wrap64_in _ ⟨by omega, by omega⟩
            have hw2 : ((j : Int) + 1 - 1) = (j : Int) := by omega
            have hpos : (0 : Int) < ((j + 1 : Nat) : Int) := by omega
            by_cases h3 : c.getD j 0 < c.getD (j + 1) 0
            · have hz : okK fs c (j + 1) = true := by rw [HOk, decide_eq_true h12, decide_eq_true h3]; simp
              have hG := Lib.hid (HG.out hz)
              have h3' : ¬ c.getD (j + 1) 0 ≤ c.getD j 0 := by omega
              clear hz HOk h12 h3 hA'
              generalize c.getD (j + 1) 0 = x at *
              generalize c.getD j 0 = y at *
              subst hA
              go_wp2_with (fail)
              go_roundg gi
              case rel => exact ⟨j + 1 + 1, by have := HK.out; show _ = _; omega, by go_num, hG.out, hb⟩
              case measure => omega
            · have hz : okK fs c (j + 1) = false := by rw [HOk, decide_eq_true h12, decide_eq_false h3]; simp
              have hE := Lib.hid (HE.out hz)
              have h3' : c.getD (j + 1) 0 ≤ c.getD j 0 := by omega
              clear hz HOk h12 h3 hA'
              generalize c.getD (j + 1) 0 = x at *
              generalize c.getD j 0 = y at *
              subst hA
              go_wp2_with (fail)
              go_ret
              exact ⟨ret_i hE.out, hb⟩
end Go.Proofs.Ytgbjglkiaoplmaa
