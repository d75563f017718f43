/- How far apart the rows of two tables are; a table without its first row, and without its last one. -/
import Derived.Test.YtmmjdabioolodaaJmp
import Derived.Test.YtmmjdabioolodaaCut
namespace Go.Proofs.Ytmmjdabioolodaa
open Go.RowKit

/-- A table without its last row, with the room that it has. -/
theorem head_run (g o n c : Nat) (h : n + 1 ≤ c) (w : World) : (Instr.slice 22 (.slice (some ⟨g, o, none⟩) (n + 1) c) none (some (.int .i64 (n : Int))) none).run Try.prog w = .ok (.slice (some ⟨g, o, none⟩) n c) w := by
  have q1 : (n : Int) ≤ (c : Int) := by omega
  have q2 : (n : Int) ≤ (n : Int) + 1 := by omega
  go_simp
theorem tail_run (g o n c : Nat) (h : n + 1 ≤ c) (w : World) : (Instr.slice 22 (.slice (some ⟨g, o, none⟩) (n + 1) c) (some (.int .i64 1)) none none).run Try.prog w = .ok (.slice (if c = 1 then some ⟨g, o, none⟩ else some ⟨g, o + 1, none⟩) n (c - 1)) w := by
  have q1 : (n : Int) + 1 ≤ (c : Int) := by omega
  by_cases hc : c = 1
  · subst hc
    obtain rfl : n = 0 := by omega
    go_simp
  · have q2 : ¬ (c : Int) = 1 := by omega
    go_simp
    intro h
    omega
/-- The rows but the first one. -/
def tailR (R : Rows) : Rows := fun k => R (k + 1)
theorem rt_tail {w : World} {g o n c : Nat} {R : Rows} {ls : List (List Int)} (hl : ls.length = n + 1) (hc : n + 1 ≤ c) (h : RT w (some ⟨g, o, none⟩) R ls) : RT w (if c = 1 then some ⟨g, o, none⟩ else some ⟨g, o + 1, none⟩) (tailR R) (ls.drop 1) := by
  have hg : ∀ k, (ls.drop 1).getD k [] = ls.getD (k + 1) [] := fun k => by rw [List.getD_eq_getElem?_getD, List.getElem?_drop, List.getD_eq_getElem?_getD, Nat.add_comm]
  have hlen : (ls.drop 1).length = n := by simp [hl]
  refine ⟨?_, fun k hk => by rw [hg]; exact h.row (k + 1) (by omega)⟩
  rcases Nat.eq_zero_or_pos n with h0 | h0
  · exact .inl (List.eq_nil_of_length_eq_zero (by rw [rowsV_len, hlen, h0]))
  · rw [if_neg (by omega)]
    obtain ⟨b, o', he, hlt, _⟩ := h.at_ (k := 0) (by omega)
    injection he with he
    injection he with e1 e2
    subst e1 e2
    refine .inr ⟨g, o + 1, rfl, hlt, fun k v hv => ?_⟩
    have hk : k < n := by
      rcases Nat.lt_or_ge k n with hk | hk
      · exact hk
      · rw [List.getElem?_eq_none (by rw [rowsV_len, hlen]; exact hk)] at hv; cases hv
    rw [rowsV_get (by rw [hlen]; exact hk), hg] at hv
    obtain ⟨b', o', he, _, hc'⟩ := h.at_ (k := k + 1) (by omega)
    injection he with he
    injection he with e1 e2
    subst e1 e2
    rw [show o + 1 + k = o + (k + 1) by omega, hc', ← hv]; rfl
/-- The greatest jump of the rows at the same place, of the first k. -/
def farTo (p q : List (List Int)) : Nat → Int
  | 0 => 0
  | k + 1 => max (farTo p q k) (jumpL (p.getD k []) (q.getD k []))
set_option maxRecDepth 100000 in
set_option maxHeartbeats 2000000 in
theorem farthestR_c (A B : Option Addr) (R T : Rows) (p q : List (List Int)) (cap cap' n : Nat) (w : World) (hl : p.length = q.length) (hn : p.length ≤ 1000) (hn3 : n ≤ 3) (hp : ∀ k, k < p.length → OkV (p.getD k []) n 3) (hq : ∀ k, k < q.length → OkV (q.getD k []) n 3) (hr : RT w A R p) (hr' : RT w B T q) :
    Calls Try.prog 86 #[.slice A p.length cap, .slice B q.length cap', .func (.func 78) #[] #[]] w fun e w' => e = .returned (.int .i64 (farTo p q p.length)) ∧ Below w.heap.size w w' := by
  have HE : Hid (∀ k, farTo p q (k + 1) = max (farTo p q k) (jumpL (p.getD k []) (q.getD k []))) := fun k => rfl
  have H0 : Hid (farTo p q 0 = 0) := rfl
  have HL := Lib.hid hl
  have HD := fun k (hk : k < p.length) w1 (hb : Below w.heap.size w w1) => Lib.hid (jumpOf_c (R k).1 (T k).1 (p.getD k []) (q.getD k []) (R k).2 (T k).2 w1 (by rw [(hp k hk).len, (hq k (by omega)).len]) (by rw [(hp k hk).len]; omega) (fun i => ⟨small_get (hp k hk) (by decide) i, small_get (hq k (by omega)) (by decide) i⟩) ((hr.row k hk).later hb) ((hr'.row k (by omega)).later hb))
  clear hl hp hq
  go_enter Try.func86, Try.ntmps86
  go_wp2_with (fail)
  go_loopg [7, 11] p.length (fun gk fv iv wr => ∃ k : Nat, Hid (k + gk = p.length) ∧ iv = .int .i64 (k : Int) ∧ fv = .int .i64 (farTo p q k) ∧ Below w.heap.size w wr)
  case atStart => exact ⟨0, by simp [Hid], rfl, by rw [H0.out], Below.refl _ _⟩
  case round =>
    obtain ⟨k, HK, rfl, rfl, hb⟩ := hrel
    rcases gk with _ | gi
    · obtain rfl : k = p.length := HK.out
      go_wp2_with (fail)
      go_ret
      exact ⟨rfl, hb⟩
    · have hlt : k < p.length := by have := HK.out; omega
      have hlt' : (k : Int) < (p.length : Int) := by omega
      have hltb : k < q.length := by rw [← HL.out]; exact hlt
      have hltb' : (k : Int) < (q.length : Int) := by omega
      obtain ⟨b1, o1, rfl, _, HA⟩ := hr.all_ (by omega)
      obtain ⟨b2, o2, rfl, _, HB⟩ := hr'.all_ (by omega)
      have F1 : Hid (∀ w1, Below w.heap.size w w1 → w1.cell? ⟨b1, o1 + k, none⟩ = some (.slice (R k).1 (p.getD k []).length (R k).2)) := fun w1 h => HA w1 h k hlt
      have F2 : Hid (∀ w1, Below w.heap.size w w1 → w1.cell? ⟨b2, o2 + k, none⟩ = some (.slice (T k).1 (q.getD k []).length (T k).2)) := fun w1 h => HB w1 h k hltb
      have HDk := HD k hlt
      have HSk := Lib.hid (HE.out k)
      clear HA HB HD hr hr'
      generalize hx : farTo p q k = x at HSk
      generalize jumpL (p.getD k []) (q.getD k []) = j at *
      generalize (p.getD k []).length = m1 at *
      generalize (q.getD k []).length = m2 at *
      have hdr : Below w.heap.size w wr.drew := hb.drew
      go_wp2_with (fail)
      refine wp_region_low (hdr) (by kernel_rfl) (by kernel_rfl) ?_
      repeat (first
        | go_big_quiet_skip
        | (go_big_quiet_want
           apply Exists.intro
           refine And.intro (fun W hW => ?_) ?_
           · (have z1 := F1.out W hW; have z2 := F2.out W hW)
             go_simp
             first
               | exact rfl
               | (refine (HDk W hW).out.mono ?_; rintro e w1 ⟨rfl, hbb⟩; exact ⟨rfl, bl_call hW hbb⟩)
           try go_simp
           go_big_quiet_on))
      all_goals
        refine wpQuiet_nil ?_
        intro w9 hb9
        go_wp2_with (fail)
      all_goals
        go_roundg gi
        case rel => exact ⟨k + 1, by have := HK.out; show _ = _; omega, by go_num, by rw [HSk.out]; exact congrArg _ (by omega), hb9⟩
        case measure => omega
end Go.Proofs.Ytmmjdabioolodaa
