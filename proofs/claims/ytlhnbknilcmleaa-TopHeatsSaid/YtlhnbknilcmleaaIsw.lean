/- Windows are checked by package heat. -/
import Derived.Test.YtlhnbknilcmleaaFew
namespace Go.Proofs.Ytlhnbknilcmleaa
open Go.RowKit

theorem seg_none {l : List T3} {ion : Int} {f m : Nat} (h : seg l ion f m = none) : ∀ d, seg l ion f (m + d) = none
  | 0 => h
  | d + 1 => by rw [← Nat.add_assoc, seg, seg_none h d]; rfl
theorem seg_range {l : List T3} (ha : Acts l) {ion : Int} {f : Nat} : ∀ m s, f + m ≤ l.length → seg l ion f m = some s → 0 ≤ s ∧ s ≤ 100 * m
  | 0, s, _, h => by simp [seg] at h; omega
  | m + 1, s, hl, h => by
    rw [seg] at h
    cases hp : seg l ion f m with
    | none => rw [hp] at h; simp at h
    | some s' =>
      have ih := seg_range ha m s' (by omega) hp
      have h4 := ha.get (k := f + m) (by omega)
      have hb := h4.h0
      have hb1 := h4.h1
      rw [hp, Option.bind_some] at h
      split at h
      · split at h
        · cases h
        · injection h with h; omega
      · injection h with h; omega
def segB (l : List T3) (lim ion : Int) (f t : Nat) : Bool := match seg l ion f (t - f) with | none => false | some s => decide (lim < s)
theorem winB_eq (l : List T3) (lim ion : Int) (f t : Nat) : winB l lim (ion, (f : Int), (t : Int)) = (decide ((f : Int) < t) && (l.getD f t0).2.1 == ion && (l.getD t t0).2.1 == ion && (l.getD t t0).1 == 1 && segB l lim ion f t) := by
  cases hs : seg l ion f (t - f) <;> simp [winB, segB, hs]
theorem segT_run (g o n c i j : Nat) (h : i < j) (hj : j ≤ n) (hn : n ≤ c) (w : World) : (Instr.slice 22 (.slice (some ⟨g, o, none⟩) n c) (some (.int .i64 i)) (some (.int .i64 j)) none).run Try.prog w = .ok (.slice (some ⟨g, o + i * 3, none⟩) (j - i) (c - i)) w := by
  have q1 : (i : Int) ≤ (j : Int) := by omega
  have q3 : (j : Int) ≤ (c : Int) := by omega
  have q4 : ¬ (c : Int) = (i : Int) := by omega
  go_simp
  intro h
  omega
theorem four_cases (p q r s : Bool) : p = false ∨ (p = true ∧ q = false) ∨ (p = true ∧ q = true ∧ r = false) ∨ (p = true ∧ q = true ∧ r = true ∧ s = false) ∨ (p = true ∧ q = true ∧ r = true ∧ s = true) := by
  cases p <;> cases q <;> cases r <;> cases s <;> simp

set_option maxRecDepth 100000 in
set_option maxHeartbeats 4000000 in
theorem isWindow_c (A : Option Addr) (l : List T3) (c : Nat) (lim ion : Int) (f t : Nat) (w : World) (h20 : l.length ≤ 1000) (hcap : l.length ≤ c) (ha : Acts l) (hf : f < l.length) (ht : t < l.length) (hr : Rd w A (cellsT l)) :
    Calls Try.prog 70 #[.slice A l.length c, .int .i64 lim, .agg #[.int .i64 ion, .int .i64 f, .int .i64 t]] w fun e w' => e = .returned (.bool (winB l lim (ion, (f : Int), (t : Int)))) ∧ Below w.heap.size w w' := by
  have HV := Lib.hid (winB_eq l lim ion f t)
  have hx0 := Bx.new w 67 #[.int .i64 ion, .int .i64 f, .int .i64 t]
  have hb0 := bl_alloc (Below.refl w.heap.size w) (.cells #[.int .i64 ion, .int .i64 f, .int .i64 t] 67)
  obtain ⟨w0, hw0⟩ : ∃ w0, w0 = w.alloc (.cells #[.int .i64 ion, .int .i64 f, .int .i64 t] 67) := ⟨_, rfl⟩
  have hf' : (f : Int) < (l.length : Int) := by omega
  have ht' : (t : Int) < (l.length : Int) := by omega
  obtain ⟨b, o, rfl, hbl, _⟩ := hr.tri hf
  rw [← hw0] at hx0 hb0
  have hr0 := hr.later hb0
  have HC : Hid (∀ w1, Below w0.heap.size w0 w1 → (w1.cell? ⟨w.heap.size, 0, none⟩ = some (.int .i64 ion) ∧ w1.cell? ⟨w.heap.size, 1, none⟩ = some (.int .i64 f) ∧ w1.cell? ⟨w.heap.size, 2, none⟩ = some (.int .i64 t)) ∧
      (w1.cell? ⟨b, o + f * 3, none⟩ = some (.int .i64 (l.getD f t0).1) ∧ w1.cell? ⟨b, o + f * 3 + 1, none⟩ = some (.int .i64 (l.getD f t0).2.1) ∧ w1.cell? ⟨b, o + f * 3 + 2, none⟩ = some (.int .i64 (l.getD f t0).2.2)) ∧
      w1.cell? ⟨b, o + t * 3, none⟩ = some (.int .i64 (l.getD t t0).1) ∧ w1.cell? ⟨b, o + t * 3 + 1, none⟩ = some (.int .i64 (l.getD t t0).2.1) ∧ w1.cell? ⟨b, o + t * 3 + 2, none⟩ = some (.int .i64 (l.getD t t0).2.2)) := fun w1 hw => by
    obtain ⟨b', o', he, _, h1, h2⟩ := (hr0.later hw).tri2 hf ht
    injection he with he
    injection he with e1 e2
    subst e1 e2
    obtain ⟨y0, y1, y2, _⟩ := (hx0.call hw).three
    exact ⟨⟨y0, y1, y2⟩, h1, h2⟩
  have HS := Lib.hid (@seg_range l ha ion f)
  have HSB : Hid (segB l lim ion f t = match seg l ion f (t - f) with | none => false | some s => decide (lim < s)) := rfl
  generalize hxf : l.getD f t0 = xf at HC HV
  generalize hxt : l.getD t t0 = xt at HC HV
  obtain ⟨fk, fi, fh⟩ := xf
  obtain ⟨tk, ti, th⟩ := xt
  simp only [] at HV
  clear hxf hxt
  have HGt := fun w => Lib.hid (isGate_c tk ti th w)
  have hCC : Below w0.heap.size w0 w0.drew := (Below.refl _ _).drew
  rcases four_cases (decide ((f : Int) < t)) (fi == ion) (ti == ion) (tk == 1) with h1 | ⟨h1, h2⟩ | ⟨h1, h2, h3⟩ | ⟨h1, h2, h3, h4⟩ | ⟨h1, h2, h3, h4⟩
  · have HR : Hid (winB l lim (ion, (f : Int), (t : Int)) = false) := by show _ = _; rw [HV.out, h1]; rfl
    have q1 : (t : Int) ≤ (f : Int) := by have := of_decide_eq_false h1; omega
    have q2 : decide ((t : Int) ≤ (f : Int)) = true := decide_eq_true q1
    clear h1
    go_enter Try.func70, Try.ntmps70
    go_wp2_with (fail)
    rw [← hw0]; clear hw0
    refine wp_region_low (hCC) (by kernel_rfl) (by kernel_rfl) ?_
    repeat (first
      | go_big_quiet_skip
      | (go_big_quiet_want
         apply Exists.intro
         refine And.intro (fun W hW => ?_) ?_
         · (obtain ⟨⟨p0, p1, p2⟩, ⟨q0, q1, q2⟩, r0, r1, r2⟩ := HC.out W hW)
           go_simp
           first
             | exact rfl
             | ((refine (HGt W).out.mono ?_; rintro e w1 ⟨rfl, hb1⟩; exact ⟨rfl, bl_call hW hb1⟩))
         try go_simp
         go_big_quiet_on))
    refine wpQuiet_nil ?_
    intro w9 hb9
    go_wp2_with (fail)
    go_ret
    exact ⟨by rw [HR.out]; rfl, bl_call hb0 hb9⟩
  · have HR : Hid (winB l lim (ion, (f : Int), (t : Int)) = false) := by show _ = _; rw [HV.out, h1, h2]; rfl
    have hft : (f : Int) < (t : Int) := of_decide_eq_true h1
    have hftn : f < t := by omega
    have q1 : decide (t ≤ f) = false := decide_eq_false (by omega)
    have h2' : (fi != ion) = true := by rw [bne, h2]; rfl
    clear h1 h2
    go_enter Try.func70, Try.ntmps70
    go_wp2_with (fail)
    rw [← hw0]; clear hw0
    refine wp_region_low (hCC) (by kernel_rfl) (by kernel_rfl) ?_
    repeat (first
      | go_big_quiet_skip
      | (go_big_quiet_want
         apply Exists.intro
         refine And.intro (fun W hW => ?_) ?_
         · (obtain ⟨⟨p0, p1, p2⟩, ⟨q0, q1, q2⟩, r0, r1, r2⟩ := HC.out W hW)
           go_simp
           first
             | exact rfl
             | ((refine (HGt W).out.mono ?_; rintro e w1 ⟨rfl, hb1⟩; exact ⟨rfl, bl_call hW hb1⟩))
         try go_simp
         go_big_quiet_on))
    refine wpQuiet_nil ?_
    intro w9 hb9
    go_wp2_with (fail)
    go_ret
    exact ⟨by rw [HR.out]; rfl, bl_call hb0 hb9⟩
  · have HR : Hid (winB l lim (ion, (f : Int), (t : Int)) = false) := by show _ = _; rw [HV.out, h1, h2, h3]; rfl
    have hft : (f : Int) < (t : Int) := of_decide_eq_true h1
    have hftn : f < t := by omega
    have q1 : decide (t ≤ f) = false := decide_eq_false (by omega)
    obtain rfl : fi = ion := by simpa using h2
    have h3' : (ti != fi) = true := by rw [bne, h3]; rfl
    have h2' : (fi != fi) = false := by simp
    clear h1 h2 h3
    go_enter Try.func70, Try.ntmps70
    go_wp2_with (fail)
    rw [← hw0]; clear hw0
    refine wp_region_low (hCC) (by kernel_rfl) (by kernel_rfl) ?_
    repeat (first
      | go_big_quiet_skip
      | (go_big_quiet_want
         apply Exists.intro
         refine And.intro (fun W hW => ?_) ?_
         · (obtain ⟨⟨p0, p1, p2⟩, ⟨q0, q1, q2⟩, r0, r1, r2⟩ := HC.out W hW)
           go_simp
           first
             | exact rfl
             | ((refine (HGt W).out.mono ?_; rintro e w1 ⟨rfl, hb1⟩; exact ⟨rfl, bl_call hW hb1⟩))
         try go_simp
         go_big_quiet_on))
    refine wpQuiet_nil ?_
    intro w9 hb9
    go_wp2_with (fail)
    go_ret
    exact ⟨by rw [HR.out]; rfl, bl_call hb0 hb9⟩
  · have HR : Hid (winB l lim (ion, (f : Int), (t : Int)) = false) := by show _ = _; rw [HV.out, h1, h2, h3, h4]; rfl
    have hft : (f : Int) < (t : Int) := of_decide_eq_true h1
    have hftn : f < t := by omega
    have q1 : decide (t ≤ f) = false := decide_eq_false (by omega)
    obtain rfl : fi = ion := by simpa using h2
    obtain rfl : ti = fi := by simpa using h3
    have h2' : (ti != ti) = false := by simp
    clear h1 h2 h3
    rw [h4] at HGt
    go_enter Try.func70, Try.ntmps70
    go_wp2_with (fail)
    rw [← hw0]; clear hw0
    refine wp_region_low (hCC) (by kernel_rfl) (by kernel_rfl) ?_
    repeat (first
      | go_big_quiet_skip
      | (go_big_quiet_want
         apply Exists.intro
         refine And.intro (fun W hW => ?_) ?_
         · (obtain ⟨⟨p0, p1, p2⟩, ⟨q0, q1, q2⟩, r0, r1, r2⟩ := HC.out W hW)
           go_simp
           first
             | exact rfl
             | ((refine (HGt W).out.mono ?_; rintro e w1 ⟨rfl, hb1⟩; exact ⟨rfl, bl_call hW hb1⟩))
         try go_simp
         go_big_quiet_on))
    refine wpQuiet_nil ?_
    intro w9 hb9
    go_wp2_with (fail)
    go_ret
    exact ⟨by rw [HR.out]; rfl, bl_call hb0 hb9⟩
  · have HR : Hid (winB l lim (ion, (f : Int), (t : Int)) = segB l lim ion f t) := by show _ = _; rw [HV.out, h1, h2, h3, h4]; rfl
    have hft : (f : Int) < (t : Int) := of_decide_eq_true h1
    have hftn : f < t := by omega
    have q1 : decide (t ≤ f) = false := decide_eq_false (by omega)
    obtain rfl : fi = ion := by simpa using h2
    obtain rfl : ti = fi := by simpa using h3
    obtain rfl : tk = 1 := by simpa using h4
    have h2' : (ti != ti) = false := by simp
    have hsl := fun w1 => segT_run b o l.length c f t (by omega) (by omega) hcap w1
    have hrf := hr0.dropped f
    have hlf : (l.drop f).length = l.length - f := by simp
    have hft2 : (f : Int) ≤ (t : Int) := by omega
    clear h1 h2 h3 h4
    go_enter Try.func70, Try.ntmps70
    go_wp2_with (fail)
    rw [← hw0]; clear hw0
    refine wp_region_low (hCC) (by kernel_rfl) (by kernel_rfl) ?_
    repeat (first
      | go_big_quiet_skip
      | (go_big_quiet_want
         apply Exists.intro
         refine And.intro (fun W hW => ?_) ?_
         · (obtain ⟨⟨p0, p1, p2⟩, ⟨q0, q1, q2⟩, r0, r1, r2⟩ := HC.out W hW)
           go_simp
           first
             | exact rfl
             | ((refine (HGt W).out.mono ?_; rintro e w1 ⟨rfl, hb1⟩; exact ⟨rfl, bl_call hW hb1⟩))
         try go_simp
         go_big_quiet_on))
    refine wpQuiet_nil ?_
    intro w9 hb9
    obtain ⟨⟨p0, p1, p2⟩, _, _⟩ := HC.out w9 hb9
    have htf : ((t - f : Nat) : Int) = (t : Int) - (f : Int) := by omega
    obtain ⟨M, hM⟩ : ∃ M, M = t - f := ⟨_, rfl⟩
    rw [← hM] at hsl HSB
    have HM := Lib.hid hM
    clear htf hM
    go_wp2_with (fail)
    go_loopg [7, 53] M (fun gk sv iv wr => ∃ (m : Nat) (s : Int), Hid (m + gk = M) ∧ iv = .int .i64 (m : Int) ∧ sv = .int .i64 s ∧ Hid (seg l ti f m = some s) ∧ Below w0.heap.size w0 wr)
    case atStart => exact ⟨0, 0, by simp [Hid], rfl, rfl, rfl, hb9⟩
    case round =>
      obtain ⟨m, s, HK, rfl, rfl, HSG, hb⟩ := hrel
      have hsr := HS.out m s (by have := HK.out; have := HM.out; omega) HSG.out
      rcases gk with _ | gi
      · obtain rfl : m = M := HK.out
        by_cases hls : lim < s
        · have HE : Hid (segB l lim ti f t = true) := by show _ = _; rw [HSB.out, HSG.out]; exact decide_eq_true hls
          go_wp2_with (fail)
          go_ret
          exact ⟨by rw [HR.out, HE.out]; rfl, bl_call hb0 hb⟩
        · have HE : Hid (segB l lim ti f t = false) := by show _ = _; rw [HSB.out, HSG.out]; exact decide_eq_false hls
          go_wp2_with (fail)
          go_ret
          exact ⟨by rw [HR.out, HE.out]; rfl, bl_call hb0 hb⟩
      · have hmM : m < M := by have := HK.out; omega
        have hmM' : (m : Int) < (M : Int) := by omega
        have hfm : f + m < l.length := by have := HM.out; omega
        obtain ⟨b', o', he, _, c0, c1, c2⟩ := (hrf.later hb).tri (k := m) (by rw [hlf]; omega)
        injection he with he
        injection he with e1 e2
        subst e1 e2
        have hgd : (l.drop f).getD m t0 = l.getD (f + m) t0 := by simp
        rw [hgd] at c0 c1 c2
        have h4 := ha.get hfm
        have HN : Hid (seg l ti f (m + 1) = (if (l.getD (f + m) t0).2.1 = ti then (if (l.getD (f + m) t0).1 = 2 then none else some (s + (l.getD (f + m) t0).2.2)) else some s)) := by
          show _ = _; rw [seg, HSG.out, Option.bind_some]
        generalize l.getD (f + m) t0 = g at c0 c1 c2 h4 HN
        obtain ⟨ak, ai, ah⟩ := g
        obtain ⟨_, _, _, _, p4, p5, _⟩ := h4
        simp only [] at c0 c1 c2 p4 p5 HN
        obtain ⟨⟨y0, y1, y2⟩, _, _⟩ := HC.out wr hb
        have HCo := fun w => Lib.hid (isCooling_c ak ai ah w)
        have hs1 : s ≤ 1000000 := by have := HM.out; omega
        have hs0 := hsr.1
        clear hsr hgd
        have hwl : w.heap.size < wr.heap.size := by have := hx0.lt; have := hb.size; omega
        have hba := bl_alloc hb (.cells #[.int .i64 ak, .int .i64 ai, .int .i64 ah] 61)
        have hbx : Bx (wr.alloc (.cells #[.int .i64 ak, .int .i64 ai, .int .i64 ah] 61)) wr.heap.size 61 #[.int .i64 ak, .int .i64 ai, .int .i64 ah] := Bx.new _ _ _
        by_cases hi : ai = ti
        · subst hi
          by_cases h2 : ak = 2
          · subst h2
            have HE : Hid (segB l lim ai f t = false) := by
              show _ = _
              have hn : seg l ai f (m + 1) = none := by rw [HN.out, if_pos rfl, if_pos rfl]
              have := seg_none hn (M - (m + 1))
              rw [show m + 1 + (M - (m + 1)) = M by omega] at this
              rw [HSB.out, this]
            go_wp2_with (go_at_call 76; refine (HCo _).out.mono ?_; rintro e w1 ⟨rfl, hb1⟩)
            go_ret
            exact ⟨by rw [HR.out, HE.out]; rfl, bl_call hb0 (bl_call hba hb1)⟩
          · have q2 : (ak == 2) = false := by simpa using h2
            have HX : Hid (seg l ai f (m + 1) = some (s + ah)) := by show _ = _; rw [HN.out, if_pos rfl, if_neg h2]
            have q3 : (ai != ai) = false := by simp
            go_wp2_with (go_at_call 76; refine (HCo _).out.mono ?_; rintro e w1 ⟨rfl, hb1⟩; obtain ⟨z0, z1, z2, _, _, _⟩ := (hbx.call hb1).three)
            go_roundg gi
            case rel => exact ⟨m + 1, s + ah, by have := HK.out; show _ = _; omega, by go_num, rfl, HX, bl_call hba hb1⟩
            case measure => omega
        · have q3 : (ai != ti) = true := by simpa using hi
          have HX : Hid (seg l ti f (m + 1) = some s) := by show _ = _; rw [HN.out, if_neg hi]
          go_wp2_with (fail)
          go_roundg gi
          case rel => exact ⟨m + 1, s, by have := HK.out; show _ = _; omega, by go_num, rfl, HX, hba⟩
          case measure => omega
end Go.Proofs.Ytlhnbknilcmleaa
