/- The items with the greatest share: slices.IndexFunc and ContainsFunc at items, package budget's Worst and the document's. -/
import Derived.Test.YtgbjglkiaoplmaaShr
import Derived.Test.YtgbjglkiaoplmaaRrt
namespace Go.Proofs.Ytgbjglkiaoplmaa
open Go.RowKit

def shK (l : List It) (k : Nat) : Int := shareP (l.getD k it0)
/-- Whether no share is above that of item k. -/
def topB (l : List It) (k : Nat) : Bool := decide (∀ j, j < l.length → ¬ shK l k < shK l j)
def wstTo (l : List It) : Nat → List Int
  | 0 => []
  | k + 1 => if topB l k = true then wstTo l k ++ [(k : Int)] else wstTo l k
def wstL (l : List It) : List Int := if valE l = 0 then wstTo l l.length else []
theorem wstTo_len (l : List It) : ∀ k, (wstTo l k).length ≤ k
  | 0 => Nat.le_refl _
  | k + 1 => by
    have := wstTo_len l k
    rw [wstTo]; split
    · rw [List.length_append, List.length_singleton]; omega
    · omega
def mostTo (l : List It) : Nat → Int
  | 0 => 0
  | k + 1 => max (mostTo l k) (shK l k)
theorem most_le {l : List It} : ∀ {k j : Nat}, j < k → shK l j ≤ mostTo l k
  | k + 1, j, h => by
    rw [mostTo]
    rcases Nat.lt_or_ge j k with h' | h'
    · have := most_le (l := l) h'; omega
    · have : j = k := by omega
      subst this; omega
theorem most_at {l : List It} : ∀ {k : Nat}, 0 < k → (∀ j, j < k → 0 ≤ shK l j) → ∃ j, j < k ∧ mostTo l k = shK l j
  | 1, _, h => ⟨0, by omega, by have := h 0 (by omega); simp [mostTo]; omega⟩
  | k + 2, _, h => by
    obtain ⟨j, hj, e⟩ := most_at (l := l) (k := k + 1) (by omega) (fun j hj => h j (by omega))
    rw [mostTo, e]
    rcases Int.lt_or_le (shK l j) (shK l (k + 1)) with h' | h'
    · exact ⟨k + 1, by omega, by omega⟩
    · exact ⟨j, by omega, by omega⟩
theorem top_most {l : List It} (h : ∀ j, j < l.length → 0 ≤ shK l j) {k : Nat} (hk : k < l.length) : topB l k = decide (shK l k = mostTo l l.length) := by
  obtain ⟨j, hj, e⟩ := most_at (l := l) (k := l.length) (by omega) h
  have hle := most_le (l := l) (k := l.length) hk
  rw [Bool.eq_iff_iff, decide_eq_true_eq]
  unfold topB
  rw [decide_eq_true_eq]
  constructor
  · intro h1; have := h1 j hj; omega
  · intro h1 i hi
    have := most_le (l := l) (k := l.length) hi
    omega
theorem wst_mem {l : List It} {j : Nat} : ∀ {k : Nat}, j < k → topB l j = true → (j : Int) ∈ wstTo l k
  | k + 1, h, ht => by
    rw [wstTo]
    rcases Nat.lt_or_ge j k with h' | h'
    · have := wst_mem h' ht
      split
      · exact List.mem_append_left _ this
      · exact this
    · have : j = k := by omega
      subst this
      rw [if_pos ht]; simp
theorem share_nn {l : List It} (h : valE l = 0) : ∀ j, j < l.length → 0 ≤ shK l j := fun j hj => ((val_ok h j hj).share (by decide)).1
theorem wst_some {l : List It} (h : valE l = 0) : 0 < (wstL l).length ↔ 0 < l.length := by
  unfold wstL
  rw [if_pos h]
  constructor
  · intro h1; have := wstTo_len l l.length; omega
  · intro h1
    obtain ⟨j, hj, e⟩ := most_at (l := l) (k := l.length) h1 (share_nn h)
    have ht : topB l j = true := by rw [top_most (share_nn h) hj]; exact decide_eq_true e.symm
    exact List.length_pos_of_mem (wst_mem hj ht)
set_option maxRecDepth 100000 in
set_option maxHeartbeats 1000000 in
theorem wst1_c (B : Nat) (p : Int) (x : It) (w : World) (hp : Cnt p) (hk : OkI 8 x) (hx : Bx w B 78 #[.int .i64 (rat p).1, .int .i64 (rat p).2]) :
    Calls Try.prog 75 #[.agg #[.int .i64 x.u, .int .i64 x.n, .int .i64 x.d], .pointer (some ⟨B, 0, none⟩)] w fun f w' => f = .returned (.bool (decide (p < shareP x))) ∧ Below w.heap.size w w' := by
  have hf := rat_fr hp
  have hg := rat_fr (share_cnt hk (by decide))
  have p1 := mul_in (a := (rat p).1) (b := (rat (shareP x)).2) (A := 50000000) (B := 2520) ⟨hf.1.1, hf.1.2⟩ ⟨by omega, hg.2.2⟩
  have p2 := mul_in (a := (rat (shareP x)).1) (b := (rat p).2) (A := 50000000) (B := 2520) ⟨hg.1.1, hg.1.2⟩ ⟨by omega, hf.2.2⟩
  have HL := fun w => Lib.hid (less_c (rat p).1 (rat p).2 (rat (shareP x)).1 (rat (shareP x)).2 w (by omega) (by omega))
  have HS := fun w => Lib.hid (shareOf_c x 8 w hk (by decide))
  have hc : decide (p < shareP x) = decide ((rat p).1 * (rat (shareP x)).2 < (rat (shareP x)).1 * (rat p).2) := by
    rw [Bool.eq_iff_iff, decide_eq_true_eq, decide_eq_true_eq, rat_lt]
  rw [hc]
  generalize decide ((rat p).1 * (rat (shareP x)).2 < (rat (shareP x)).1 * (rat p).2) = z at *
  generalize rat (shareP x) = s at *
  generalize (rat p).1 = a at *
  generalize (rat p).2 = b at *
  clear hc p1 p2 hf hg
  generalize x.u = xu at *
  generalize x.n = xn at *
  generalize x.d = xd at *
  have hb0 := bl_alloc (Below.refl w.heap.size w) (.cells #[.int .i64 xu, .int .i64 xn, .int .i64 xd] 50)
  have x0 : Bx (w.alloc (.cells #[.int .i64 xu, .int .i64 xn, .int .i64 xd] 50)) w.heap.size 50 #[.int .i64 xu, .int .i64 xn, .int .i64 xd] := Bx.new w _ _
  have y0 := hx.call hb0
  go_enter Try.func75, Try.ntmps75
  go_wp2_with (fail)
  generalize w.alloc (.cells #[.int .i64 xu, .int .i64 xn, .int .i64 xd] 50) = W0 at *
  have hdr : Below W0.heap.size W0 W0.drew := (Below.refl _ _).drew
  have HC := Lib.hid (fun W (hW : Below W0.heap.size W0 W) => And.intro (x0.call hW).three (y0.call hW).two)
  refine wp_region_low (hdr) (by kernel_rfl) (by kernel_rfl) ?_
  repeat (first
    | go_big_quiet_skip
    | (go_big_quiet_want
       apply Exists.intro
       refine And.intro (fun W hW => ?_) ?_
       · (obtain ⟨⟨a0, a1, a2, _, _, _⟩, b0, b1, _, _⟩ := HC.out W hW)
         go_simp
         first
           | exact rfl
           | (first | (with_reducible refine (HS W).out.mono ?_; rintro e w1 ⟨rfl, hb1⟩; exact ⟨rfl, bl_call hW hb1⟩) | (with_reducible refine (HL W).out.mono ?_; rintro e w1 ⟨rfl, hb1⟩; exact ⟨rfl, bl_call hW hb1⟩))
       try go_simp
       go_big_quiet_on))
  refine wpQuiet_nil ?_
  intro w9 hb9
  go_wp2_with (fail)
  go_ret
  exact ⟨rfl, bl_call hb0 hb9⟩
set_option maxRecDepth 100000 in
set_option maxHeartbeats 2000000 in
theorem indexI_c (A : Option Addr) (l : List It) (c : Nat) (B : Nat) (p : Int) (w : World) (hlen : l.length ≤ 1000) (hp : Cnt p) (hok : OkIs 8 l) (hx : Bx w B 78 #[.int .i64 (rat p).1, .int .i64 (rat p).2]) (hr : Rd w A (cellsI l)) :
    Calls Try.prog 101 #[.slice A l.length c, .func (.func 75) #[] #[.pointer (some ⟨B, 0, none⟩)]] w fun f w' => (∃ r : Int, f = .returned (.int .i64 r) ∧ ((r = -1 ∧ ∀ j, j < l.length → ¬ p < shK l j) ∨ 0 ≤ r ∧ ∃ j, j < l.length ∧ p < shK l j)) ∧ Below w.heap.size w w' := by
  replace hok := Lib.hid hok
  go_enter Try.func101, Try.ntmps101
  go_wp2_with (fail)
  go_loopg [8] l.length (fun gk iv wr => ∃ k : Nat, Hid (k + gk = l.length) ∧ iv = .int .i64 (k : Int) ∧ Hid (∀ j, j < k → ¬ p < shK l j) ∧ Below w.heap.size w wr)
  case atStart => exact ⟨0, by simp [Hid], rfl, fun j h => absurd h (by omega), Below.refl _ _⟩
  case round =>
    obtain ⟨k, HK, rfl, HP, hb⟩ := hrel
    rcases gk with _ | gi
    · obtain rfl : k = l.length := HK.out
      go_wp2_with (fail)
      go_ret
      exact ⟨⟨-1, rfl, .inl ⟨rfl, HP.out⟩⟩, hb⟩
    · have hkl : k < l.length := by have := HK.out; omega
      have hkl' : (k : Int) < (l.length : Int) := by omega
      obtain ⟨b, o, rfl, _, c0, c1, c2⟩ := (hr.later hb).itm hkl
      have HI := fun w1 (h : Bx w1 B 78 #[.int .i64 (rat p).1, .int .i64 (rat p).2]) => Lib.hid (wst1_c B p (l.getD k it0) w1 hp (hok.out k hkl) h)
      have HX : Hid (decide (p < shareP (l.getD k it0)) = true → ∃ r : Int, r = (k : Int) ∧ ((r = -1 ∧ ∀ j, j < l.length → ¬ p < shK l j) ∨ 0 ≤ r ∧ ∃ j, j < l.length ∧ p < shK l j)) := fun h => ⟨_, rfl, .inr ⟨by omega, k, hkl, of_decide_eq_true h⟩⟩
      have HG : Hid (decide (p < shareP (l.getD k it0)) = false → ∀ j, j < k + 1 → ¬ p < shK l j) := fun h j hj => by
        rcases Nat.lt_or_ge j k with x | x
        · exact HP.out j x
        · obtain rfl : j = k := by omega
          exact of_decide_eq_false h
      generalize decide (p < shareP (l.getD k it0)) = z at *
      generalize (l.getD k it0).u = xu at *
      generalize (l.getD k it0).n = xn at *
      generalize (l.getD k it0).d = xd at *
      have hx1 := Lib.hid (hx.call hb)
      cases z with
      | true =>
        obtain ⟨r, hr1, hr2⟩ := HX.out rfl
        have HR := Lib.hid hr2
        have HR1 := Lib.hid hr1
        clear hr1 hr2
        go_wp2_with (go_at_call 75; refine (HI _ (by first | exact hx1.out | exact hx1.out.drew)).out.mono ?_; rintro f w3 ⟨rfl, hb3⟩)
        go_ret
        exact ⟨⟨r, by rw [HR1.out]; rfl, HR.out⟩, bl_call hb hb3⟩
      | false =>
        have HX2 := Lib.hid (HG.out rfl)
        go_wp2_with (go_at_call 75; refine (HI _ (by first | exact hx1.out | exact hx1.out.drew)).out.mono ?_; rintro f w3 ⟨rfl, hb3⟩)
        go_roundg gi
        case rel => exact ⟨k + 1, by have := HK.out; show _ = _; omega, by go_num, HX2.out, bl_call hb hb3⟩
        case measure => omega
theorem containsI_c (A : Option Addr) (l : List It) (c : Nat) (B : Nat) (p : Int) (w : World) (hlen : l.length ≤ 1000) (hp : Cnt p) (hok : OkIs 8 l) (hx : Bx w B 78 #[.int .i64 (rat p).1, .int .i64 (rat p).2]) (hr : Rd w A (cellsI l)) :
    Calls Try.prog 74 #[.slice A l.length c, .func (.func 75) #[] #[.pointer (some ⟨B, 0, none⟩)]] w fun f w' => f = .returned (.bool (!decide (∀ j, j < l.length → ¬ p < shK l j))) ∧ Below w.heap.size w w' := by
  have HI := Lib.hid (indexI_c A l c B p w hlen hp hok hx hr)
  by_cases h : ∀ j, j < l.length → ¬ p < shK l j
  · have hd : decide (∀ j, j < l.length → ¬ p < shK l j) = true := decide_eq_true h
    rw [hd]
    replace h := Lib.hid h
    clear hd
    go_enter Try.func74, Try.ntmps74
    go_wp2_with (fail)
    refine HI.out.mono ?_
    rintro f w1 ⟨⟨r, rfl, hr1⟩, hb1⟩
    obtain rfl : r = -1 := by
      rcases hr1 with ⟨h1, _⟩ | ⟨_, j, hj, h2⟩
      · exact h1
      · have := h.out j hj; omega
    clear hr1
    go_wp2_with (fail)
    go_ret
    exact ⟨rfl, hb1⟩
  · have hd : decide (∀ j, j < l.length → ¬ p < shK l j) = false := decide_eq_false h
    rw [hd]
    replace h := Lib.hid h
    clear hd
    go_enter Try.func74, Try.ntmps74
    go_wp2_with (fail)
    refine HI.out.mono ?_
    rintro f w1 ⟨⟨r, rfl, hr1⟩, hb1⟩
    have h0 : 0 ≤ r := by
      rcases hr1 with ⟨_, h1⟩ | ⟨h1, _⟩
      · exact absurd h1 h.out
      · exact h1
    clear hr1
    go_wp2_with (fail)
    go_ret
    exact ⟨ret_b (by first | (simp; omega) | simp), hb1⟩
/-- Numbers, and an error. -/
def OutN (L : List Int) (z : Int) (w : World) (e : Ending) (w' : World) : Prop :=
  ∃ A c, e = .returned (.tuple #[.slice A L.length c, .int .i64 z]) ∧ Rd w' A (ints L) ∧ Below w.heap.size w w'
set_option maxRecDepth 100000 in
set_option maxHeartbeats 4000000 in
theorem Worst_c (A : Option Addr) (l : List It) (cap : Nat) (w : World) (hlen : l.length ≤ 1000) (hr : Rd w A (cellsI l)) :
    Calls Try.prog 33 #[.slice A l.length cap] w (OutN (wstL l) (valE l) w) := by
  have HV := Lib.hid (Validate_c A l cap w hlen hr)
  by_cases hv : valE l = 0
  rotate_left
  · have hE : wstL l = [] := by unfold wstL; rw [if_neg hv]
    have hv' : (valE l == 0) = false := by rw [beq_eq_false_iff_ne]; exact hv
    rw [hE]
    clear hE
    generalize valE l = z at *
    go_enter Try.func33, Try.ntmps33
    go_wp2_with (fail)
    refine HV.out.mono ?_
    rintro e w1 ⟨rfl, hb1⟩
    go_wp2_with (fail)
    go_ret2
    exact ⟨none, 0, rfl, .inl rfl, hb1⟩
  · have hE : wstL l = wstTo l l.length := by unfold wstL; rw [if_pos hv]
    have HOK := Lib.hid (val_ok hv)
    rw [hE, hv]
    rw [hv] at HV
    clear hE hv
    have HS : Hid (∀ k, wstTo l (k + 1) = if topB l k = true then wstTo l k ++ [(k : Int)] else wstTo l k) := fun k => rfl
    have HL := Lib.hid (wstTo_len l)
    have HC := Lib.hid (fun B p w hp hx hr => containsI_c A l cap B p w hlen hp HOK.out hx hr)
    have HSh := Lib.hid (fun k (hk : k < l.length) w => shareOf_c (l.getD k it0) 8 w (HOK.out k hk) (by decide))
    have HCn := Lib.hid (fun k (hk : k < l.length) => share_cnt (HOK.out k hk) (by decide))
    have HT : Hid (∀ k, (decide (∀ j, j < l.length → ¬ shareP (l.getD k it0) < shK l j)) = topB l k) := fun k => rfl
    go_enter Try.func33, Try.ntmps33
    go_wp2_with (fail)
    refine HV.out.mono ?_
    rintro e w1 ⟨rfl, hb1⟩
    clear HV
    go_wp2_with (fail)
    go_loopg [5, 16] l.length (fun gk ov iv wr => ∃ (k : Nat) (D : Option Addr) (d : Nat), Hid (k + gk = l.length) ∧ iv = .int .i64 (k : Int) ∧ ov = .slice D (wstTo l k).length d ∧ wr.ownsRow w.heap.size 3 1 (.slice D (wstTo l k).length d) (wstTo l k).length (ints (wstTo l k)) ∧ Below w.heap.size w wr)
    case atStart => exact ⟨0, none, 0, by simp [Hid], rfl, rfl, World.ownsRow_nil _ _ _ _, hb1⟩
    case round =>
      obtain ⟨k, D, d, HK, rfl, rfl, hown, hb⟩ := hrel
      rcases gk with _ | gi
      · obtain rfl : k = l.length := HK.out
        have hrd := (own_rd hown).1
        go_wp2_with (fail)
        go_ret2
        exact ⟨D, d, rfl, hrd, hb⟩
      · have hkl : k < l.length := by have := HK.out; omega
        have hkl' : (k : Int) < (l.length : Int) := by omega
        have hr2 := Lib.hid hr
        obtain ⟨b, o, hAe, _, c0, c1, c2⟩ := (hr.later hb).itm hkl
        subst hAe
        have HSk := Lib.hid (HS.out k)
        have HLk := HL.out k
        have HShk := Lib.hid (HSh.out k hkl)
        have HCk := Lib.hid (fun B w hx hr => HC.out B _ w (HCn.out k hkl) hx hr)
        have hTk := HT.out k
        rw [hTk] at HCk
        clear hTk
        generalize topB l k = z at *
        generalize wstTo l k = L at *
        generalize rat (shareP (l.getD k it0)) = p at *
        generalize (l.getD k it0).u = xu at *
        generalize (l.getD k it0).n = xn at *
        generalize (l.getD k it0).d = xd at *
        have hbx := bl_alloc (Below.refl wr.heap.size wr) (.cells #[.int .i64 xu, .int .i64 xn, .int .i64 xd] 50)
        obtain ⟨y0, y1, y2, _, _, _⟩ := (Bx.new wr 50 #[.int .i64 xu, .int .i64 xn, .int .i64 xd]).three
        have hown0 := own_call hown hbx
        have hb0 := bl_call hb hbx
        clear hown hb hbx
        go_wp2_with (fail)
        refine (HShk.out _).mono ?_
        rintro e w2 ⟨rfl, hb2⟩
        have hown2 := own_call hown0 hb2
        have hb02 := bl_call hb0 hb2
        have hbp := bl_alloc (Below.refl w2.heap.size w2) (.cells #[.int .i64 p.1, .int .i64 p.2] 78)
        have xp : Bx (w2.alloc (.cells #[.int .i64 p.1, .int .i64 p.2] 78)) w2.heap.size 78 #[.int .i64 p.1, .int .i64 p.2] := Bx.new w2 _ _
        have hown3 := own_call hown2 hbp
        have hb03 := bl_call hb02 hbp
        clear hown0 hb0 hb2 hown2 hb02 hbp y0 y1 y2 c0 c1 c2
        go_wp2_with (fail)
        refine (HCk.out _ _ xp (hr2.out.later hb03)).mono ?_
        rintro e w4 ⟨rfl, hb4⟩
        have hown4 := own_call hown3 hb4
        have hb04 := bl_call hb03 hb4
        clear hown3 hb03 hb4 xp
        cases z with
        | false =>
          go_wp2_with (fail)
          go_roundg gi
          case rel => exact ⟨k + 1, D, d, by have := HK.out; show _ = _; omega, by go_num, by rw [HSk.out]; rfl, by rw [HSk.out]; exact hown4, hb04⟩
          case measure => omega
        | true =>
          obtain ⟨A2, c2, w5, hrun, hown5, hb5, _⟩ := append_int w.heap.size w4 (.slice D L.length d) L (k : Int) hown4 (by omega) hb04.size
          have E1 := Lib.hid hrun
          have HSk' : Hid (wstTo l (k + 1) = L ++ [(k : Int)]) := HSk.out
          clear hrun hown4
          go_wp2_with (at_builtin; refine wpList_append_eq rfl _ _ 40 rfl _ _ _ w5 rfl rfl E1.out ?_)
          go_roundg gi
          case rel =>
            refine ⟨k + 1, A2, c2, by have := HK.out; show _ = _; omega, by go_num, ?_, ?_, hb04.trans hb5⟩
            · rw [HSk'.out]; simp
            · rw [HSk'.out]; simpa using hown5
          case measure => omega
end Go.Proofs.Ytgbjglkiaoplmaa
