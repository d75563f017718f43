/- The shortest closed pulse. -/
import Derived.Test.YtpjdojjdhbmbjaaPul
import Derived.Test.YtpjdojjdhbmbjaaPush
namespace Go.Proofs.Ytpjdojjdhbmbjaa
open Go.RowKit Go.Shelf
attribute [local go_sem] Oper.semAt_some

/-- Below the length k no closed pulse has a force that is not 0. -/
def NoneTo (l : List Int) (f k : Nat) : Prop := ∀ L, 1 ≤ L → L < k → (closedL l f L).any pushB = false
def ShortIs (l : List Int) (f : Int) (n : Int) (b : Bool) : Prop :=
  (searchE l 1 f = 0 → (∃ L : Nat, 1 ≤ L ∧ L ≤ 6 ∧ n = L ∧ b = true ∧ (closedL l f.toNat L).any pushB = true ∧ NoneTo l f.toNat L) ∨ (n = 0 ∧ b = false ∧ NoneTo l f.toNat 7)) ∧ (searchE l 1 f ≠ 0 → n = 0 ∧ b = false)

theorem searchE_f {l : List Int} {n f : Int} (h : searchE l n f = 0) : 0 ≤ n ∧ n ≤ 6 ∧ 1 ≤ f ∧ f ≤ 2 ∧ areModesL l = true := by
  unfold searchE at h
  split at h
  · rename_i h1
    simp [inB] at h1
    exact ⟨by omega, by omega, by omega, by omega, h1.1.1⟩
  · cases h
theorem areModes_len {l : List Int} (h : areModesL l = true) : 0 < l.length := by
  simp [areModesL] at h; exact h.1

set_option maxRecDepth 100000 in
set_option maxHeartbeats 4000000 in
theorem shortest_c (B : Option Addr) (l : List Int) (cap : Nat) (f : Int) (w : World) (hl : l.length ≤ 9223372036854775806) (hr : Rd w B (ints l)) :
    Calls Try.prog 54 #[.slice B l.length cap, .int .i64 f] w fun e w' => ∃ n b, e = .returned (.tuple #[.int .i64 n, .bool b, .int .i64 (searchE l 1 f)]) ∧ ShortIs l f n b ∧ Below w.heap.size w w' := by
  have hvs := validateSearch_c B l cap 1 f (((w.alloc (.cells #[.int .i64 0] 3)).alloc (.cells #[.bool false] 4)).alloc (.cells #[.int .i64 0] 26)) (by omega) (hr.later (bl_alloc (bl_alloc (bl_alloc (Below.refl _ _) _) _) _))
  have HSH : Hid (∀ n b, ShortIs l f n b ↔ ((searchE l 1 f = 0 → (∃ L : Nat, 1 ≤ L ∧ L ≤ 6 ∧ n = L ∧ b = true ∧ (closedL l f.toNat L).any pushB = true ∧ NoneTo l f.toNat L) ∨ (n = 0 ∧ b = false ∧ NoneTo l f.toNat 7)) ∧ (searchE l 1 f ≠ 0 → n = 0 ∧ b = false))) := fun _ _ => Iff.rfl
  have HSF := Lib.hid (@searchE_f l 1 f)
  generalize ShortIs l f = SH at HSH
  generalize searchE l 1 f = E at hvs HSH HSF
  have HVS := Lib.hid hvs
  clear hvs
  refine (callsIn_wide (n := 9)).1 ?_
  refine callsIn_of_wp_marks Try.func54 rfl trivial ?_ rfl
  simp only [Try.ntmps54, List.size_toArray, List.length_cons, List.length_nil, Nat.reduceAdd, Nat.reduceSub, Array.replicate_succ, Array.replicate_zero, List.push_toArray, List.append_toArray, List.nil_append, List.cons_append]
  gi_wp2_with (fail)
  refine ⟨trivial, ?_⟩
  refine (callsIn_wide.2 HVS.out).mono ?_
  rintro en w' ⟨rfl, rfl⟩
  have hb0 : Below w.heap.size w (((w.alloc (.cells #[.int .i64 0] 3)).alloc (.cells #[.bool false] 4)).alloc (.cells #[.int .i64 0] 26)) := bl_alloc (bl_alloc (bl_alloc (Below.refl _ _) _) _) _
  have x0 : Bx (((w.alloc (.cells #[.int .i64 0] 3)).alloc (.cells #[.bool false] 4)).alloc (.cells #[.int .i64 0] 26)) w.heap.size 3 #[.int .i64 0] := ((Bx.newAt rfl).alloc _).alloc _
  have x1 : Bx (((w.alloc (.cells #[.int .i64 0] 3)).alloc (.cells #[.bool false] 4)).alloc (.cells #[.int .i64 0] 26)) (w.heap.size + 1) 4 #[.bool false] := (Bx.newAt (by simp)).alloc _
  have x2 : Bx (((w.alloc (.cells #[.int .i64 0] 3)).alloc (.cells #[.bool false] 4)).alloc (.cells #[.int .i64 0] 26)) (w.heap.size + 2) 26 #[.int .i64 0] := Bx.newAt (by simp)
  have hsz : (((w.alloc (.cells #[.int .i64 0] 3)).alloc (.cells #[.bool false] 4)).alloc (.cells #[.int .i64 0] 26)).heap.size = w.heap.size + 3 := by simp
  have hr0 := hr.later hb0
  generalize ((w.alloc (.cells #[.int .i64 0] 3)).alloc (.cells #[.bool false] 4)).alloc (.cells #[.int .i64 0] 26) = w0 at hb0 x0 x1 x2 hsz hr0
  clear HVS
  simp only [Nat.add_assoc, Nat.reduceAdd] at *
  obtain ⟨hx0, hy0⟩ := x0.one
  obtain ⟨hx1, hy1⟩ := x1.one
  obtain ⟨hx2, hy2⟩ := x2.one
  by_cases hE : (E != 0) = true
  · have hfin : SH 0 false := (HSH.out 0 false).2 ⟨fun h => absurd h (by simpa using hE), fun _ => ⟨rfl, rfl⟩⟩
    have HF := Lib.hid hfin
    clear hfin
    gi_wp2_with (fail)
    have y0 := ((x0.set1 (.int .i64 0)).far (g' := w.heap.size + 1) (i := 0) (by omega) (.bool false)).far (g' := w.heap.size + 2) (i := 0) (by omega) (.int .i64 E)
    have y1 := ((x1.far (g' := w.heap.size) (i := 0) (by omega) (.int .i64 0)).set1 (.bool false)).far (g' := w.heap.size + 2) (i := 0) (by omega) (.int .i64 E)
    have y2 := ((x2.far (g' := w.heap.size) (i := 0) (by omega) (.int .i64 0)).far (g' := w.heap.size + 1) (i := 0) (by omega) (.bool false)).set1 (.int .i64 E)
    exact ⟨.tuple #[.int .i64 0, .bool false, .int .i64 E], by simp [results, Try.f54, go_sem, y0.one.1, y1.one.1, y2.one.1], 0, false, rfl, HF.out, bl_set (bl_set (bl_set hb0 (Nat.le_refl _) _) (by omega) _) (by omega) _⟩
  · have hE' : (E != 0) = false := by simpa using hE
    have hE0 : E = 0 := by simpa using hE'
    clear hE
    obtain ⟨_, _, hf1, hf2, _⟩ := HSF.out hE0
    obtain ⟨fn, rfl⟩ := Int.eq_ofNat_of_zero_le (show 0 ≤ f by omega)
    have HSH' : Hid (∀ (n : Int) (b : Bool), (∃ L : Nat, 1 ≤ L ∧ L ≤ 6 ∧ n = L ∧ b = true ∧ (closedL l fn L).any pushB = true ∧ NoneTo l fn L) ∨ (n = 0 ∧ b = false ∧ NoneTo l fn 7) → SH n b) := fun n b h => (HSH.out n b).2 ⟨fun _ => by simpa using h, fun h' => absurd hE0 h'⟩
    have hfn : fn ≤ 2 := by omega
    clear HSH HSF
    subst hE0
    clear hE'
    gi_wp2_with (fail)
    refine wpIn_loop_ghost_k (fun gk a X => ∃ (L Bt : Nat) (ds : List Deferred) (u9 u16 u17 u18 u19 u20 u21 u22 u23 u24 u25 u26 u27 u28 : Value),
      a = { tmps := #[.slice B l.length cap, .int .i64 fn, undef, undef, .pointer (some ⟨w.heap.size, 0, none⟩), .pointer (some ⟨w.heap.size + 1, 0, none⟩), .pointer (some ⟨w.heap.size + 2, 0, none⟩), .int .i64 0,
        .pointer (some ⟨Bt, 0, none⟩), u9, .slice B l.length cap, .int .i64 fn, .int .i64 0, .int .i64 0, .bool false, undef, u16, u17, u18, u19, u20, u21, u22, u23, u24, u25, u26, u27, u28], defers := ds } ∧
      gk + L = 7 ∧ 1 ≤ L ∧ Marks (w.heap.size + 3) X.heap.size X ds ∧ Bx X Bt 3 #[.int .i64 L] ∧ w.heap.size + 3 ≤ Bt ∧ Bx X w.heap.size 3 #[.int .i64 0] ∧ Bx X (w.heap.size + 1) 4 #[.bool false] ∧ Bx X (w.heap.size + 2) 26 #[.int .i64 0] ∧
      Hid (NoneTo l fn L) ∧ Below w.heap.size w X) 6 ?start ?round
    case start =>
      exact ⟨1, w.heap.size + 3, [], _, _, _, _, _, _, _, _, _, _, _, _, _, _, rfl, rfl, Nat.le_refl _, trivial, by rw [← hsz]; exact Bx.new w0 _ _, Nat.le_refl _, x0.alloc _, x1.alloc _, x2.alloc _, fun L h1 h2 => by omega, bl_alloc hb0 _⟩
    case round =>
      rintro gk a X ⟨L, Bt, ds, u9, u16, u17, u18, u19, u20, u21, u22, u23, u24, u25, u26, u27, u28, rfl, hgk, hL1, hM, hT, hBt, x0, x1, x2, hN, hb⟩ J K hJ hK
      clear hx0 hy0 hx1 hy1 hx2 hy2 hb0 hsz hr0
      have HJ := Lib.hid hJ
      clear hJ
      obtain ⟨hT1, hT2⟩ := hT.one
      by_cases hL : L ≤ 6
      · gi_wp2_with (fail)
        refine ⟨trivial, ?_⟩
        refine (callsIn_wide.2 (closedPulses_c _ _ _ _ _ _)).mono ?_
        rintro en w1 ⟨rfl, hw1⟩
        have hb1 : Below X.heap.size X w1 := by rw [← hw1]; exact bl_alloc (bl_alloc (bl_alloc (Below.refl _ _) _) _) _
        have hs1 : w1.heap.size = X.heap.size + 3 := by rw [← hw1]; simp
        have z0 : Bx w1 X.heap.size 22 #[.slice B l.length cap] := by rw [← hw1]; exact ((Bx.newAt rfl).alloc _).alloc _
        have z1 : Bx w1 (X.heap.size + 1) 3 #[.int .i64 L] := by rw [← hw1]; exact (Bx.newAt (by simp)).alloc _
        have z2 : Bx w1 (X.heap.size + 2) 3 #[.int .i64 fn] := by rw [← hw1]; exact Bx.newAt (by simp)
        clear hw1 hT1 hT2
        have hrX := (hr.later hb).later hb1
        have hrb := hr.blk
        have hszX := hb.size
        have hBtX := hT.lt
        gi_wp2_with (fail)
        refine wp_range (n := 9) (gf := 95) (lb := #[.pointer (some ⟨X.heap.size + 1, 0, none⟩), .pointer (some ⟨X.heap.size + 2, 0, none⟩), .pointer (some ⟨X.heap.size, 0, none⟩)]) rfl (enters_of Try.func95 (by kernel_rfl) rfl)
          (closed_iter w1 B l cap L fn hL hfn hl (X.heap.size + 1) (X.heap.size + 2) X.heap.size (fun k => k < w.heap.size ∨ k = X.heap.size) (by omega) (by omega) (by omega) z1.one.1 z2.one.1 z0.one.1 hrX (by omega) (.inr rfl) (fun a e h => .inl (hrb a e h)))
          (Below.refl _ _) (by omega) (by rintro x vs W' ⟨A, c, rfl, _⟩; rfl)
          (fun e pre Y => Hid (pre.any pushB = false) ∧ Bx Y Bt 3 #[.int .i64 L] ∧ Bx Y w.heap.size 3 #[.int .i64 0] ∧ Bx Y (w.heap.size + 1) 4 #[.bool false] ∧ Bx Y (w.heap.size + 2) 26 #[.int .i64 0] ∧ Marks (w.heap.size + 3) X.heap.size Y ds ∧ Below w.heap.size w Y)
          (fun e c pre Y => c = .ret ∧ Hid (pre.any pushB = true) ∧ Bx Y w.heap.size 3 #[.int .i64 L] ∧ Bx Y (w.heap.size + 1) 4 #[.bool true] ∧ Bx Y (w.heap.size + 2) 26 #[.int .i64 0] ∧ Marks (w.heap.size + 3) X.heap.size Y ds ∧ Below w.heap.size w Y) ?hI ?hIx ?h0
          (fun x a' Y => ∃ A c, Rd Y A (ints x) ∧ a' = { tmps := #[.slice B l.length cap, .int .i64 fn, undef, undef, .pointer (some ⟨w.heap.size, 0, none⟩), .pointer (some ⟨w.heap.size + 1, 0, none⟩), .pointer (some ⟨w.heap.size + 2, 0, none⟩), .int .i64 0,
            .pointer (some ⟨Bt, 0, none⟩), .slice A x.length c, .slice B l.length cap, .int .i64 fn, .int .i64 0, .int .i64 0, .bool false, undef, .int .i64 L, .bool true, u18, u19, .slice B l.length cap, .int .i64 L, .int .i64 fn,
            .func (.func 95) #[] #[.pointer (some ⟨X.heap.size + 1, 0, none⟩), .pointer (some ⟨X.heap.size + 2, 0, none⟩), .pointer (some ⟨X.heap.size, 0, none⟩)], .slice A x.length c, u25, u26, u27, u28], defers := [] })
          ?hAx ?assign ?body ?done ?stop
        case hI =>
          rintro e s Y Z ⟨hs, h1, h2, h3, h4, h5, h6⟩ hm
          have hz : ∀ k, k < w1.heap.size → ¬ zone w1.heap.size e k := fun k hk h => by have := h.1; omega
          exact ⟨hs, h1.mod hm (hz _ (by omega)), h2.mod hm (hz _ (by omega)), h3.mod hm (hz _ (by omega)), h4.mod hm (hz _ (by omega)), h5.mod hm (fun D _ hD => hz _ (by omega)), h6.trans (hm.below h6.size (fun k hk => hz _ (by omega)))⟩
        case hIx =>
          rintro e c s Y Z ⟨hc, hs, h2, h3, h4, h5, h6⟩ hm
          have hz : ∀ k, k < w1.heap.size → ¬ zone w1.heap.size e k := fun k hk h => by have := h.1; omega
          exact ⟨hc, hs, h2.mod hm (hz _ (by omega)), h3.mod hm (hz _ (by omega)), h4.mod hm (hz _ (by omega)), h5.mod hm (fun D _ hD => hz _ (by omega)), h6.trans (hm.below h6.size (fun k hk => hz _ (by omega)))⟩
        case h0 =>
          intro e Y hbY _ _
          have hbX := bl_call hb1 hbY
          exact ⟨rfl, hT.call hbX, x0.call hbX, x1.call hbX, x2.call hbX, hM.call hbX, bl_call hb hbX⟩
        case hAx =>
          rintro x a' Y Z l' o ⟨A, c, hrd, rfl⟩ hl' ⟨r, hr'⟩ rfl
          exact ⟨A, c, hrd.put hr' o, rfl⟩
        case assign =>
          rintro l' e pre x vs Y k he hes _ ⟨A, c, rfl, hrd⟩ hk
          gi_wp2
          exact hk _ _ (Mod.refl _ Y) ⟨A, c, hrd, rfl⟩
        case body =>
          rintro l' e pre x a' Y he hes ⟨t, hpre⟩ ⟨hs, h1, h2, h3, h4, h5, h6⟩ ⟨A, c, hrx, rfl⟩
          have hxl : x.length ≤ 6 := by
            have hmem : x ∈ closedL l fn L := by rw [hpre]; simp
            rw [pulses_len (f := fn) (n := L) (List.mem_filter.1 hmem).1]; exact hL
          have HP := Lib.hid (pushes_c A x c Y (by omega) hrx)
          have HA : Hid (∀ b, pushB x = b → (pre ++ [x]).any pushB = b) := by
            rintro b rfl
            rw [List.any_append, hs.out]; simp
          generalize pushB x = b at HP HA
          obtain ⟨hT1, hT2⟩ := h1.one
          obtain ⟨hx0, hy0⟩ := h2.one
          obtain ⟨hx1, hy1⟩ := h3.one
          obtain ⟨hx2, hy2⟩ := h4.one
          gi_wp2_with (fail)
          refine ⟨trivial, ?_⟩
          refine (CallsIn.inRound l' (callsIn_wide.2 HP.out)).mono ?_
          rintro en w4 ⟨rfl, rfl⟩
          have hnk : ∀ k, w.heap.size ≤ k → k < w.heap.size + 3 → ¬ (k < w.heap.size ∨ k = X.heap.size) ∧ ¬ zone w1.heap.size e k := fun k h1 h2 => ⟨by omega, fun h => by have := h.1; omega⟩
          cases b with
          | false =>
            gi_wp2_with (fail)
            exact ⟨Mod.refl _ _, HA.out false rfl, h1, h2, h3, h4, h5, h6⟩
          | true =>
            gi_wp2_with (fail)
            refine ⟨(((Mod.refl _ Y).setCell (.inr (hnk _ (by omega) (by omega))) _).setCell (.inr (hnk _ (by omega) (by omega))) _).setCell (.inr (hnk _ (by omega) (by omega))) _, rfl, HA.out true rfl,
              ((h2.set1 _).far (by omega) _).far (by omega) _, ((h3.far (by omega) _).set1 _).far (by omega) _, ((h4.far (by omega) _).far (by omega) _).set1 _, ?_, bl_set (bl_set (bl_set h6 (by omega) _) (by omega) _) (by omega) _⟩
            exact ((h5.set h2 _).set (h3.far (by omega) _) _).set ((h4.far (by omega) _).far (by omega) _) _
        case stop =>
          rintro D e c pre Y hD hDe hes ⟨t, hpre⟩ ⟨rfl, hs, h2, h3, h4, h5, h6⟩ hK
          have hfin : SH L true := HSH'.out _ _ (.inl ⟨L, hL1, hL, rfl, rfl, by rw [hpre, List.any_append, hs.out]; rfl, hN.out⟩)
          have HF := Lib.hid hfin
          clear hfin
          gi_wp2
          refine leaves_marks _ _ (h5.cons (D := D) (by omega) (by omega) hK) fun Z hm => ?_
          have y0 := (h2.mod hm (by omega)).one.1
          have y1 := (h3.mod hm (by omega)).one.1
          have y2 := (h4.mod hm (by omega)).one.1
          exact ⟨.tuple #[.int .i64 L, .bool true, .int .i64 0], by simp [results, Try.f54, go_sem, y0, y1, y2], L, true, rfl, HF.out, h6.trans (hm.below h6.size (fun k hk => by omega))⟩
        case done =>
          rintro D e Y hD hDe hes ⟨hs, h1, h2, h3, h4, h5, h6⟩ hK
          obtain ⟨hT1, hT2⟩ := h1.one
          have hN' : Hid (NoneTo l fn (L + 1)) := fun L' a b => by
            rcases Nat.lt_or_ge L' L with h | h
            · exact hN.out L' a h
            · have : L' = L := by omega
              rw [this]; exact hs.out
          gi_wp2_with (fail)
          have hM' : Marks (w.heap.size + 3) (Y.alloc (.cells #[.int .i64 ((L : Int) + 1)] 3)).heap.size (Y.alloc (.cells #[.int .i64 ((L : Int) + 1)] 3)) ({ target := .collected D, args := #[] } :: ds) :=
            ((h5.cons (D := D) (by omega) (by omega) hK).call (bl_alloc (Below.refl _ _) _)).more (by rw [World.size_alloc]; omega)
          have hT' : Bx (Y.alloc (.cells #[.int .i64 ((L : Int) + 1)] 3)) Y.heap.size 3 #[.int .i64 ((L + 1 : Nat) : Int)] := Bx.new Y _ _
          refine Handed.intro (gk - 1) (by omega) (HJ.out _ _ _ ?_)
          exact ⟨L + 1, Y.heap.size, _, _, _, _, _, _, _, _, _, _, _, _, _, _, _, rfl, by omega, by omega, hM', hT', by omega, h2.alloc _, h3.alloc _, h4.alloc _, hN', bl_alloc h6 _⟩
      · obtain ⟨hx0, hy0⟩ := x0.one
        obtain ⟨hx1, hy1⟩ := x1.one
        obtain ⟨hx2, hy2⟩ := x2.one
        have hfin : SH 0 false := HSH'.out _ _ (.inr ⟨rfl, rfl, fun L' a b => hN.out L' a (by omega)⟩)
        have HF := Lib.hid hfin
        clear hfin
        gi_wp2_with (fail)
        refine leaves_marks _ _ (((hM.set x0 _).set (x1.far (by omega) _) _).set ((x2.far (by omega) _).far (by omega) _) _) fun Z hm => ?_
        have y0 := ((((x0.set1 (.int .i64 0)).far (g' := w.heap.size + 1) (i := 0) (by omega) (.bool false)).far (g' := w.heap.size + 2) (i := 0) (by omega) (.int .i64 0)).mod hm (by omega)).one.1
        have y1 := ((((x1.far (g' := w.heap.size) (i := 0) (by omega) (.int .i64 0)).set1 (.bool false)).far (g' := w.heap.size + 2) (i := 0) (by omega) (.int .i64 0)).mod hm (by omega)).one.1
        have y2 := ((((x2.far (g' := w.heap.size) (i := 0) (by omega) (.int .i64 0)).far (g' := w.heap.size + 1) (i := 0) (by omega) (.bool false)).set1 (.int .i64 0)).mod hm (by omega)).one.1
        have hb' := bl_set (bl_set (bl_set hb (g := w.heap.size) (i := 0) (Nat.le_refl _) (.int .i64 0)) (g := w.heap.size + 1) (i := 0) (by omega) (.bool false)) (g := w.heap.size + 2) (i := 0) (by omega) (.int .i64 0)
        exact ⟨.tuple #[.int .i64 0, .bool false, .int .i64 0], by simp [results, Try.f54, go_sem, y0, y1, y2], 0, false, rfl, HF.out, hb'.trans (hm.below hb'.size (fun k hk => by omega))⟩
end Go.Proofs.Ytpjdojjdhbmbjaa
