/- The document's sorted. -/
import Derived.Test.YteoajadcdjaalaaLayA
import Derived.Test.YteoajadcdjaalaaRwith
namespace Go.Proofs.Yteoajadcdjaalaa
open Go.RowKit

/-- All pairs of the first i + 1 gates are in order, but those whose later one is k. -/
def Srt (m : List G) (i k : Nat) : Prop := ∀ a b, a < b → b ≤ i → b ≠ k → ltG (m.getD b g0) (m.getD a g0) = false
theorem ltG_asymm {x y : G} (h : ltG x y = true) : ltG y x = false := by
  cases h2 : ltG y x with
  | false => rfl
  | true => exact absurd (swoG.trans x y x h h2) (by rw [swoG.irrefl]; decide)
/-- Two neighbors exchanged. -/
def swpG (m : List G) (k : Nat) : List G := (m.set (k + 1) (m.getD k g0)).set k (m.getD (k + 1) g0)
theorem swpG_len (m : List G) (k : Nat) : (swpG m k).length = m.length := by simp [swpG]
theorem swpG_get {m : List G} {k : Nat} (h : k + 1 < m.length) (j : Nat) : (swpG m k).getD j g0 = if j = k then m.getD (k + 1) g0 else if j = k + 1 then m.getD k g0 else m.getD j g0 := by
  unfold swpG
  simp only [List.getD_eq_getElem?_getD]
  by_cases h1 : j = k
  · subst h1; rw [if_pos rfl, List.getElem?_set_self (by simp; omega)]; rfl
  · rw [if_neg h1, List.getElem?_set_ne (Ne.symm h1)]
    by_cases h2 : j = k + 1
    · subst h2; rw [if_pos rfl, List.getElem?_set_self h]; rfl
    · rw [if_neg h2, List.getElem?_set_ne (Ne.symm h2)]
theorem swpG_perm {m : List G} {k : Nat} (h : k + 1 < m.length) : (swpG m k).Perm m := by
  obtain ⟨p, x, y, s, rfl, rfl⟩ : ∃ p x y s, m = p ++ x :: y :: s ∧ p.length = k := by
    refine ⟨m.take k, m[k], m[k + 1], m.drop (k + 2), ?_, by simp; omega⟩
    have h1 : m.drop k = m[k] :: m[k + 1] :: m.drop (k + 2) := by rw [List.drop_eq_getElem_cons (by omega), List.drop_eq_getElem_cons h]
    rw [← h1, List.take_append_drop]
  have hx : (p ++ x :: y :: s).getD p.length g0 = x := by rw [List.getD_eq_getElem?_getD, List.getElem?_append_right (Nat.le_refl _), Nat.sub_self]; rfl
  have hy : (p ++ x :: y :: s).getD (p.length + 1) g0 = y := by rw [List.getD_eq_getElem?_getD, List.getElem?_append_right (by omega), show p.length + 1 - p.length = 1 by omega]; rfl
  unfold swpG
  rw [hx, hy, List.set_append_right _ _ (by omega), show p.length + 1 - p.length = 1 by omega, List.set_append_right _ _ (Nat.le_refl _), Nat.sub_self]
  exact List.Perm.append_left _ (List.Perm.swap _ _ _)
theorem srt_start {m : List G} {i : Nat} (h : ∀ a b, a < b → b < i → ltG (m.getD b g0) (m.getD a g0) = false) : Srt m i i := fun a b hab hb hne => h a b hab (by omega)
theorem srt_end {m : List G} {i k : Nat} (h : Srt m i (k + 1)) (hk : k + 1 ≤ i) (hl : ltG (m.getD (k + 1) g0) (m.getD k g0) = false) : ∀ a b, a < b → b < i + 1 → ltG (m.getD b g0) (m.getD a g0) = false := by
  intro a b hab hb
  by_cases hbk : b = k + 1
  · subst hbk
    by_cases hak : a = k
    · subst hak; exact hl
    · exact swoG.ntrans _ _ _ hl (h a k (by omega) (by omega) (by omega))
  · exact h a b hab (by omega) hbk
theorem srt_zero {m : List G} {i : Nat} (h : Srt m i 0) : ∀ a b, a < b → b < i + 1 → ltG (m.getD b g0) (m.getD a g0) = false := fun a b hab hb => h a b hab (by omega) (by omega)
theorem srt_swap {m : List G} {i k : Nat} (h : Srt m i (k + 1)) (hk : k + 1 ≤ i) (hi : i < m.length) (hl : ltG (m.getD (k + 1) g0) (m.getD k g0) = true) : Srt (swpG m k) i k := by
  intro a b hab hb hne
  rw [swpG_get (by omega) b, swpG_get (by omega) a, if_neg hne]
  by_cases hb1 : b = k + 1
  · rw [if_pos hb1]
    by_cases ha : a = k
    · rw [if_pos ha]; exact ltG_asymm hl
    · rw [if_neg ha, if_neg (by omega)]
      exact h a k (by omega) (by omega) (by omega)
  · rw [if_neg hb1]
    by_cases ha : a = k
    · rw [if_pos ha]; exact h (k + 1) b (by omega) hb hb1
    · rw [if_neg ha]
      by_cases ha1 : a = k + 1
      · rw [if_pos ha1]; exact h k b (by omega) hb hb1
      · rw [if_neg ha1]; exact h a b hab hb hb1
theorem srt_all {l m : List G} (hp : m.Perm l) (h : ∀ a b, a < b → b < m.length → ltG (m.getD b g0) (m.getD a g0) = false) : m = sortG l := by
  have h1 : m.toArray.toList = l.toArray.toList.mergeSort (fun x y => !ltG y x) := by
    refine Go.Sort.sorted_unique_holds swoG ltG_eq l.toArray m.toArray ⟨by simpa using hp.length_eq, fun i hi => ?_, ?_⟩ fun i j _ hij hj => ?_
    · have hlen := hp.length_eq
      rcases hi with hi | hi
      · omega
      · have h1 : ¬ i < m.toArray.size := by simp at hi ⊢; omega
        have h2 : ¬ i < l.toArray.size := by simp at hi ⊢; omega
        rw [getElem!_neg _ i h1, getElem!_neg _ i h2]
    · have e1 : m.toArray.extract 0 l.toArray.size = m.toArray := by
        have : l.toArray.size = m.toArray.size := by simpa using hp.length_eq.symm
        rw [this, Array.extract_size]
      rw [e1, Array.extract_size]
      exact hp
    · have hlen := hp.length_eq
      have hj' : j < m.length := by simp at hj; omega
      have hx : m.toArray[j]! = m.getD j g0 := by simp [hj']
      have hy : m.toArray[i]! = m.getD i g0 := by simp [show i < m.length by omega]
      rw [hx, hy]
      exact h i j hij hj'
  exact h1

set_option maxRecDepth 100000 in
set_option maxHeartbeats 4000000 in
theorem sorted_c (A : Option Addr) (l : List G) (c : Nat) (w : World) (hlen : l.length ≤ 1000) (hr : Rd w A (cellsG l)) :
    Calls Try.prog 71 #[.slice A l.length c] w fun e w' => ∃ A' c', e = .returned (.slice A' l.length c') ∧ w'.ownsRow w.heap.size 23 4 (.slice A' l.length c') l.length (cellsG (sortG l)) ∧ Below w.heap.size w w' := by
  obtain ⟨i0, hi, hz0, hz1, hz2⟩ := info_parts gate_info
  have hb0 : Below w.heap.size w (w.alloc (.cells #[] 23)) := bl_alloc (Below.refl _ _) _
  have ho0 : (w.alloc (.cells #[] 23)).ownsRow w.heap.size 23 4 (.slice (some ⟨w.heap.size, 0, none⟩) 0 0) 0 (cellsG []) := World.ownsRow_made (e := 23) (size := 4) w #[] 0 (Nat.le_refl _) (by decide) rfl
  go_enter Try.func71, Try.ntmps71
  go_wp2_with (at_builtin; refine wpList_append_any rfl _ _ 29 rfl w.heap.size 23 i0 _ 32 Try.underlying29 hi hz0 hz1 hz2 rfl _ 0 (cellsG []) rfl ho0 A l c rfl (hr.later hb0) (by unfold maxLen; omega) (by omega) (by simp) ?_)
  intro A1 c1 w1 ho1 hg1
  have hb1 : Below w.heap.size w w1 := hb0.trans (grown_below ho0 hg1 (by simp))
  try simp only [Nat.zero_add] at ho1
  have ho1' : w1.ownsRow w.heap.size 23 4 (.slice A1 l.length c1) l.length (cellsG l) := ho1
  clear hg1 ho1 ho0 hb0
  go_wp2_with (fail)
  go_loopg [4] (l.length - 1) (fun gk iv wr => ∃ (i : Nat) (m : List G), Hid (gk = l.length - i) ∧ 1 ≤ i ∧ Hid (i ≤ max 1 l.length) ∧ iv = .int .i64 (i : Int) ∧ Hid (m.Perm l) ∧ Hid (∀ a b, a < b → b < i → ltG (m.getD b g0) (m.getD a g0) = false) ∧ wr.ownsRow w.heap.size 23 4 (.slice A1 l.length c1) l.length (cellsG m) ∧ Below w.heap.size w wr)
  case atStart => exact ⟨1, l, rfl, Nat.le_refl _, by show _ ≤ _; omega, rfl, List.Perm.refl _, fun a b h1 h2 => by omega, ho1', hb1⟩
  case round =>
    obtain ⟨i, m, HG, hi1, HI, rfl, HP, HS, ho, hb⟩ := hrel
    rcases gk with _ | gi
    · have hge : ¬ (i : Int) < (l.length : Int) := by have h := HG.out; omega
      have hms : Hid (m = sortG l) := srt_all HP.out (fun a b h1 h2 => HS.out a b h1 (by have h := HG.out; have h3 := HP.out.length_eq; have h4 := HI.out; omega))
      go_wp2_with (fail)
      go_ret
      exact ⟨A1, c1, rfl, by rw [← hms.out]; exact ho, hb⟩
    · have hil : i < l.length := by have h := HG.out; omega
      have hil' : (i : Int) < (l.length : Int) := by omega
      obtain ⟨wo, rfl⟩ : ∃ wo : World, wo = wr := ⟨_, rfl⟩
      go_wp2_with (fail)
      go_loopg [5] i (fun gk kv wi => ∃ m : List G, Hid (gk ≤ i) ∧ kv = .int .i64 (gk : Int) ∧ Hid (m.Perm l) ∧ Hid (Srt m i gk) ∧ wi.ownsRow w.heap.size 23 4 (.slice A1 l.length c1) l.length (cellsG m) ∧ Below w.heap.size w wi)
      case atStart => exact ⟨m, Nat.le_refl _, rfl, HP, srt_start HS.out, ho, hb⟩
      case round =>
        obtain ⟨m2, HK, rfl, HP2, HS2, ho2, hb2⟩ := hrel
        clear ho hb HP HS
        rcases gk with _ | kk
        · have HE := Lib.hid (srt_zero HS2.out)
          have hCC : Below wr.heap.size wr wr.drew := (Below.refl _ _).drew
          go_wp2_with (fail)
          refine wp_region_low (hCC) (by kernel_rfl) (by kernel_rfl) ?_
          repeat (first
            | go_big_quiet_skip
            | (go_big_quiet_want
               apply Exists.intro
               refine And.intro (fun W hW => ?_) ?_
               · (skip)
                 go_simp
                 first
                   | exact rfl
                   | (fail)
               try go_simp
               go_big_quiet_on))
          refine wpQuiet_nil ?_
          intro w9 hb9
          go_wp2_with (fail)
          go_roundg gi
          case rel => exact ⟨i + 1, m2, by have h := HG.out; show _ = _; omega, by omega, by have h := HI.out; show _ ≤ _; omega, by go_num, HP2, HE.out, own_call ho2 hb9, bl_call hb2 hb9⟩
          case measure => omega
        · have hki : kk + 1 ≤ i := HK.out
          have hml : Hid (m2.length = l.length) := HP2.out.length_eq
          have hk1 : kk + 1 < m2.length := by have h := hml.out; omega
          have hk0 : kk < m2.length := by omega
          have hk1' : (kk : Int) + 1 < (l.length : Int) := by omega
          have hk0' : (kk : Int) < (l.length : Int) := by omega
          have hpos : (0 : Int) < (kk : Int) + 1 := by omega
          have hnn : (0 : Int) ≤ (kk : Int) + 1 := by omega
          have hsub : IntKind.i64.wrap ((kk : Int) + 1 - 1) = (kk : Int) := by simp [IntKind.wrap, IntKind.bits, IntKind.signed]; omega
          have hsub2 : IntKind.i64.wrap (kk : Int) = (kk : Int) := by simp [IntKind.wrap, IntKind.bits, IntKind.signed]; omega
          obtain ⟨g, rfl, hgb, hgl, hfr, hcell⟩ := own_cell ho2 (by omega)
          have Hend := Lib.hid (srt_end HS2.out hki)
          have Hswp := Lib.hid (srt_swap HS2.out hki (by have h := hml.out; omega))
          have HG1 : Hid (∀ w1, Below wr.heap.size wr w1 →
              (w1.cell? ⟨g, (kk + 1) * 4, none⟩ = some (.int .i64 (m2.getD (kk + 1) g0).1) ∧ w1.cell? ⟨g, (kk + 1) * 4 + 1, none⟩ = some (.int .i64 (m2.getD (kk + 1) g0).2.1) ∧ w1.cell? ⟨g, (kk + 1) * 4 + 2, none⟩ = some (.int .i64 (m2.getD (kk + 1) g0).2.2.1) ∧ w1.cell? ⟨g, (kk + 1) * 4 + 3, none⟩ = some (.int .i64 (m2.getD (kk + 1) g0).2.2.2)) ∧
              (w1.cell? ⟨g, kk * 4, none⟩ = some (.int .i64 (m2.getD kk g0).1) ∧ w1.cell? ⟨g, kk * 4 + 1, none⟩ = some (.int .i64 (m2.getD kk g0).2.1) ∧ w1.cell? ⟨g, kk * 4 + 2, none⟩ = some (.int .i64 (m2.getD kk g0).2.2.1) ∧ w1.cell? ⟨g, kk * 4 + 3, none⟩ = some (.int .i64 (m2.getD kk g0).2.2.2))) := fun w1 h1 => by
            obtain ⟨c0, c1, c2, c3⟩ := cellsG_get m2 (kk + 1) hk1
            obtain ⟨d0, d1, d2, d3⟩ := cellsG_get m2 kk hk0
            have hc := fun k u h => (h1.cell (p := ⟨g, k, none⟩) hgl).trans (hcell k u h)
            exact ⟨⟨hc _ _ c0, hc _ _ c1, hc _ _ c2, hc _ _ c3⟩, hc _ _ d0, hc _ _ d1, hc _ _ d2, hc _ _ d3⟩
          have hsw : Hid (swpG m2 kk = (m2.set (kk + 1) (m2.getD kk g0)).set kk (m2.getD (kk + 1) g0)) := rfl
          have hpm : Hid ((swpG m2 kk).Perm l) := (swpG_perm hk1).trans HP2.out
          clear hcell hfr
          generalize m2.getD (kk + 1) g0 = x at *
          generalize m2.getD kk g0 = y at *
          obtain ⟨xk, xa, xb, xt⟩ := x
          obtain ⟨yk, ya, yb, yt⟩ := y
          simp only [] at HG1
          have HC := fun w => Lib.hid (before_c xk xa xb xt yk ya yb yt w)
          generalize ltG (xk, xa, xb, xt) (yk, ya, yb, yt) = tb at *
          have hCC : Below wr.heap.size wr wr.drew := (Below.refl _ _).drew
          cases tb with
          | false =>
            have HE := Lib.hid (Hend.out rfl)
            clear Hend Hswp
            go_wp2_with (fail)
            refine wp_region_low (hCC) (by kernel_rfl) (by kernel_rfl) ?_
            repeat (first
              | go_big_quiet_skip
              | (go_big_quiet_want
                 apply Exists.intro
                 refine And.intro (fun W hW => ?_) ?_
                 · (obtain ⟨⟨p0, p1, p2, p3⟩, q0, q1, q2, q3⟩ := HG1.out W hW)
                   go_simp
                   first
                     | exact rfl
                     | ((refine (HC W).out.mono ?_; rintro e w1 ⟨rfl, hb1⟩; exact ⟨rfl, bl_call hW hb1⟩))
                 try go_simp
                 go_big_quiet_on))
            refine wpQuiet_nil ?_
            intro w9 hb9
            go_wp2_with (fail)
            go_roundg gi
            case rel => exact ⟨i + 1, m2, by have h := HG.out; show _ = _; omega, by omega, by have h := HI.out; show _ ≤ _; omega, by go_num, HP2, HE.out, own_call ho2 hb9, bl_call hb2 hb9⟩
            case measure => omega
          | true =>
            have HE := Lib.hid (Hswp.out rfl)
            clear Hend Hswp
            go_wp2_with (fail)
            refine wp_region_low (hCC) (by kernel_rfl) (by kernel_rfl) ?_
            repeat (first
              | go_big_quiet_skip
              | (go_big_quiet_want
                 apply Exists.intro
                 refine And.intro (fun W hW => ?_) ?_
                 · (obtain ⟨⟨p0, p1, p2, p3⟩, q0, q1, q2, q3⟩ := HG1.out W hW)
                   go_simp
                   first
                     | exact rfl
                     | ((refine (HC W).out.mono ?_; rintro e w1 ⟨rfl, hb1⟩; exact ⟨rfl, bl_call hW hb1⟩))
                 try go_simp
                 go_big_quiet_on))
            refine wpQuiet_nil ?_
            intro w9 hb9
            have hal : Below w9.heap.size w9 (w9.alloc (.cells #[.int .i64 xk, .int .i64 xa, .int .i64 xb, .int .i64 xt] 23)) := bl_alloc (Below.refl _ _) _
            have hoW := own_call ho2 (bl_call hb9 hal)
            obtain ⟨gx, hgx, _, _, hfrW, _⟩ := own_cell hoW (by omega)
            obtain rfl : g = gx := by injection hgx with h; injection h
            obtain ⟨⟨p0, p1, p2, p3⟩, q0, q1, q2, q3⟩ := HG1.out _ (bl_call hb9 hal)
            obtain ⟨⟨a0, a1, a2, a3⟩, b0, b1, b2, b3⟩ := HG1.out _ hb9
            have f0 := hfrW ((kk + 1) * 4)
            have f1 := hfrW ((kk + 1) * 4 + 1)
            have f2 := hfrW ((kk + 1) * 4 + 2)
            have f3 := hfrW ((kk + 1) * 4 + 3)
            have f4 := hfrW (kk * 4)
            have f5 := hfrW (kk * 4 + 1)
            have f6 := hfrW (kk * 4 + 2)
            have f7 := hfrW (kk * 4 + 3)
            have hne : g ≠ w9.heap.size := by have := hb9.size; omega
            have hne2 : w9.heap.size ≠ g := Ne.symm hne
            have HX : Bx (w9.alloc (.cells #[.int .i64 xk, .int .i64 xa, .int .i64 xb, .int .i64 xt] 23)) w9.heap.size 23 #[.int .i64 xk, .int .i64 xa, .int .i64 xb, .int .i64 xt] := Bx.new w9 _ _
            have HX1 := (((HX.far hne2 (g' := g) (i := (kk + 1) * 4) (.int .i64 yk)).far hne2 (g' := g) (i := (kk + 1) * 4 + 1) (.int .i64 ya)).far hne2 (g' := g) (i := (kk + 1) * 4 + 2) (.int .i64 yb)).far hne2 (g' := g) (i := (kk + 1) * 4 + 3) (.int .i64 yt)
            obtain ⟨x0, x1, x2, x3, _, _, _, _⟩ := HX1.four
            go_wp2_with (fail)
            have hO1 := own_set (own_set (own_set (own_set hoW (p := (kk + 1) * 4) (.int .i64 yk)) (p := (kk + 1) * 4 + 1) (.int .i64 ya)) (p := (kk + 1) * 4 + 2) (.int .i64 yb)) (p := (kk + 1) * 4 + 3) (.int .i64 yt)
            rw [cellsG_set4 m2 (kk + 1) (yk, ya, yb, yt) hk1] at hO1
            have hO2 := own_set (own_set (own_set (own_set hO1 (p := kk * 4) (.int .i64 xk)) (p := kk * 4 + 1) (.int .i64 xa)) (p := kk * 4 + 2) (.int .i64 xb)) (p := kk * 4 + 3) (.int .i64 xt)
            rw [cellsG_set4 (m2.set (kk + 1) (yk, ya, yb, yt)) kk (xk, xa, xb, xt) (by simp; omega), ← hsw.out] at hO2
            have hbW := bl_call hb2 (bl_call hb9 hal)
            have hbE := (((((((hbW.setCell (p := ⟨g, (kk + 1) * 4, none⟩) hgb (.int .i64 yk)).setCell (p := ⟨g, (kk + 1) * 4 + 1, none⟩) hgb (.int .i64 ya)).setCell (p := ⟨g, (kk + 1) * 4 + 2, none⟩) hgb (.int .i64 yb)).setCell (p := ⟨g, (kk + 1) * 4 + 3, none⟩) hgb (.int .i64 yt)).setCell (p := ⟨g, kk * 4, none⟩) hgb (.int .i64 xk)).setCell (p := ⟨g, kk * 4 + 1, none⟩) hgb (.int .i64 xa)).setCell (p := ⟨g, kk * 4 + 2, none⟩) hgb (.int .i64 xb)).setCell (p := ⟨g, kk * 4 + 3, none⟩) hgb (.int .i64 xt)
            go_roundg kk
            case rel => exact ⟨swpG m2 kk, by show _ ≤ _; omega, by go_num, hpm, HE, hO2, hbE⟩
            case measure => omega
end Go.Proofs.Yteoajadcdjaalaa
