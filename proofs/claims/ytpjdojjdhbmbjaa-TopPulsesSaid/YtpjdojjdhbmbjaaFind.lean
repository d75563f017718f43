/- A pulse that is found. -/
import Derived.Test.YtpjdojjdhbmbjaaSrch
import Derived.Test.YtpjdojjdhbmbjaaBack
namespace Go.Proofs.Ytpjdojjdhbmbjaa
open Go.RowKit Go.Shelf
attribute [local go_sem] Oper.semAt_some

theorem clone_rd (A : Option Addr) (x : List Int) (c : Nat) (w : World) (hx : x.length ≤ 1000) (hr : Rd w A (ints x)) :
    Calls Try.prog 70 #[.slice A x.length c] w fun e w' => ∃ A' c', e = .returned (.slice A' x.length c') ∧ Rd w' A' (ints x) ∧ (∀ ad, A' = some ad → ints x ≠ [] → w.heap.size ≤ ad.block) ∧ Below w.heap.size w w' := by
  by_cases h0 : 0 < x.length
  · obtain ⟨b, o, rfl, _, hc⟩ := hr.at_ (k := 0) (by simpa using h0)
    refine (Any.slices_Clone_int Try.laysClone b o x.length c x w (Nat.le_refl _) (by omega) (fun j hj => hc j _ (ints_get hj))).mono ?_
    rintro e w1 ⟨v1, rfl, hown, hnn, hbel⟩
    obtain ⟨A', c', rfl⟩ := own_form hown
    have h := (own_rd hown).1
    rw [List.take_of_length_le (Nat.le_refl _)] at h
    exact ⟨A', c', rfl, h, fun ad h1 _ => (own_rd hown).2 ad h1, hbel⟩
  · obtain rfl : x = [] := List.length_eq_zero_iff.1 (by omega)
    cases A with
    | none => exact (Any.slices_Clone_int_nil Try.laysClone _ _ _).mono fun e w' ⟨he, hw⟩ => ⟨none, 0, he, .inl rfl, (fun ad h => by cases h), by rw [hw]; exact Below.refl _ _⟩
    | some a =>
      refine (Any.slices_Clone_int_zero Try.laysClone a c w).mono ?_
      rintro e w1 ⟨v1, rfl, hown, hnn, hbel⟩
      obtain ⟨A', c', rfl⟩ := own_form hown
      exact ⟨A', c', rfl, .inl rfl, (fun ad _ h => absurd rfl h), hbel⟩

/-- The area of a pulse in the first mode. -/
def arF (l x : List Int) : Int := areaP (pathL (l.getD 0 0) x)
def FindIs (l : List Int) (a n f : Int) (q : List Int) (b : Bool) : Prop :=
  (searchE l n f = 0 → (b = true ∧ q ∈ closedL l f.toNat n.toNat ∧ arF l q = a) ∨ (b = false ∧ q = [] ∧ ∀ x ∈ closedL l f.toNat n.toNat, arF l x ≠ a)) ∧ (searchE l n f ≠ 0 → q = [] ∧ b = false)
def FindOut (l : List Int) (a n f : Int) (w : World) (e : Ending) (w' : World) : Prop :=
  ∃ A c q b, e = .returned (.tuple #[.slice A q.length c, .bool b, .int .i64 (searchE l n f)]) ∧ FindIs l a n f q b ∧ Rd w' A (ints q) ∧ Below w.heap.size w w'

set_option maxRecDepth 100000 in
set_option maxHeartbeats 4000000 in
theorem find_c (B : Option Addr) (l : List Int) (cap : Nat) (a n f : Int) (w : World) (hl : l.length ≤ 1000) (hr : Rd w B (ints l)) :
    Calls Try.prog 53 #[.slice B l.length cap, .int .i64 a, .int .i64 n, .int .i64 f] w (FindOut l a n f w) := by
  have hb00 : Below w.heap.size w (((((w.alloc (.cells #[.slice B l.length cap] 22)).alloc (.cells #[.int .i64 a] 3)).alloc (.cells #[.slice none 0 0] 22)).alloc (.cells #[.bool false] 4)).alloc (.cells #[.int .i64 0] 26)) := bl_alloc (bl_alloc (bl_alloc (bl_alloc (bl_alloc (Below.refl _ _) _) _) _) _) _
  have hvs := validateSearch_c B l cap n f _ (by omega) (hr.later hb00)
  by_cases hE : searchE l n f = 0
  · obtain ⟨hn0, hn6, hf1, hf2, ham⟩ := searchE_f hE
    obtain ⟨fn, rfl⟩ := Int.eq_ofNat_of_zero_le (show 0 ≤ f by omega)
    obtain ⟨nn, rfl⟩ := Int.eq_ofNat_of_zero_le hn0
    have hfn : fn ≤ 2 := by omega
    have hnn : nn ≤ 6 := by omega
    have hl0 := areModes_len ham
    have HFO : Hid (∀ A c q b w', ((b = true ∧ q ∈ closedL l fn nn ∧ arF l q = a) ∨ (b = false ∧ q = [] ∧ ∀ x ∈ closedL l fn nn, arF l x ≠ a)) → Rd w' A (ints q) → Below w.heap.size w w' → FindOut l a nn fn w (.returned (.tuple #[.slice A q.length c, .bool b, .int .i64 0])) w') :=
      fun A c q b w' h h1 h2 => ⟨A, c, q, b, by rw [hE], ⟨fun _ => by simpa using h, fun h' => absurd hE h'⟩, h1, h2⟩
    generalize FindOut l a nn fn w = FO at HFO
    rw [hE] at hvs
    have HVS := Lib.hid hvs
    clear hvs hE ham hn0 hn6 hf1 hf2
    refine (callsIn_wide (n := 9)).1 ?_
    refine callsIn_of_wp_marks Try.func53 rfl trivial ?_ rfl
    simp only [Try.ntmps53, List.size_toArray, List.length_cons, List.length_nil, Nat.reduceAdd, Nat.reduceSub, Array.replicate_succ, Array.replicate_zero, List.push_toArray, List.append_toArray, List.nil_append, List.cons_append]
    gi_wp2_with (fail)
    refine ⟨trivial, ?_⟩
    refine (callsIn_wide.2 HVS.out).mono ?_
    rintro en w' ⟨rfl, rfl⟩
    have x0 : Bx (((((w.alloc (.cells #[.slice B l.length cap] 22)).alloc (.cells #[.int .i64 a] 3)).alloc (.cells #[.slice none 0 0] 22)).alloc (.cells #[.bool false] 4)).alloc (.cells #[.int .i64 0] 26)) w.heap.size 22 #[.slice B l.length cap] := ((((Bx.newAt rfl).alloc _).alloc _).alloc _).alloc _
    have x1 : Bx (((((w.alloc (.cells #[.slice B l.length cap] 22)).alloc (.cells #[.int .i64 a] 3)).alloc (.cells #[.slice none 0 0] 22)).alloc (.cells #[.bool false] 4)).alloc (.cells #[.int .i64 0] 26)) (w.heap.size + 1) 3 #[.int .i64 a] := (((Bx.newAt (by simp)).alloc _).alloc _).alloc _
    have x2 : Bx (((((w.alloc (.cells #[.slice B l.length cap] 22)).alloc (.cells #[.int .i64 a] 3)).alloc (.cells #[.slice none 0 0] 22)).alloc (.cells #[.bool false] 4)).alloc (.cells #[.int .i64 0] 26)) (w.heap.size + 2) 22 #[.slice none 0 0] := ((Bx.newAt (by simp)).alloc _).alloc _
    have x3 : Bx (((((w.alloc (.cells #[.slice B l.length cap] 22)).alloc (.cells #[.int .i64 a] 3)).alloc (.cells #[.slice none 0 0] 22)).alloc (.cells #[.bool false] 4)).alloc (.cells #[.int .i64 0] 26)) (w.heap.size + 3) 4 #[.bool false] := (Bx.newAt (by simp)).alloc _
    have x4 : Bx (((((w.alloc (.cells #[.slice B l.length cap] 22)).alloc (.cells #[.int .i64 a] 3)).alloc (.cells #[.slice none 0 0] 22)).alloc (.cells #[.bool false] 4)).alloc (.cells #[.int .i64 0] 26)) (w.heap.size + 4) 26 #[.int .i64 0] := Bx.newAt (by simp)
    have hsz : (((((w.alloc (.cells #[.slice B l.length cap] 22)).alloc (.cells #[.int .i64 a] 3)).alloc (.cells #[.slice none 0 0] 22)).alloc (.cells #[.bool false] 4)).alloc (.cells #[.int .i64 0] 26)).heap.size = w.heap.size + 5 := by simp
    have hr0 := hr.later hb00
    generalize ((((w.alloc (.cells #[.slice B l.length cap] 22)).alloc (.cells #[.int .i64 a] 3)).alloc (.cells #[.slice none 0 0] 22)).alloc (.cells #[.bool false] 4)).alloc (.cells #[.int .i64 0] 26) = w0 at hb00 x0 x1 x2 x3 x4 hsz hr0 ⊢
    replace hsz : w.heap.size + 5 ≤ w0.heap.size := Nat.le_of_eq hsz.symm
    simp only [Nat.add_assoc, Nat.reduceAdd] at *
    obtain ⟨hx0, hy0⟩ := x0.one
    obtain ⟨hx1, hy1⟩ := x1.one
    obtain ⟨hx2, hy2⟩ := x2.one
    obtain ⟨hx3, hy3⟩ := x3.one
    obtain ⟨hx4, hy4⟩ := x4.one
    gi_wp2_with (fail)
    refine ⟨trivial, ?_⟩
    refine (callsIn_wide.2 (closedPulses_c _ _ _ _ _ _)).mono ?_
    rintro en w1 ⟨rfl, hw1⟩
    have hb1 : Below w0.heap.size w0 w1 := by rw [← hw1]; exact bl_alloc (bl_alloc (bl_alloc (Below.refl _ _) _) _) _
    have hs1 : w1.heap.size = w0.heap.size + 3 := by rw [← hw1]; simp
    have z0 : Bx w1 w0.heap.size 22 #[.slice B l.length cap] := by rw [← hw1]; exact ((Bx.newAt rfl).alloc _).alloc _
    have z1 : Bx w1 (w0.heap.size + 1) 3 #[.int .i64 nn] := by rw [← hw1]; exact (Bx.newAt (by simp)).alloc _
    have z2 : Bx w1 (w0.heap.size + 2) 3 #[.int .i64 fn] := by rw [← hw1]; exact Bx.newAt (by simp)
    clear hw1 HVS hx0 hy0 hx1 hy1 hx2 hy2 hx3 hy3 hx4 hy4
    have hrX := hr0.later hb1
    have hrb := hr.blk
    gi_wp2_with (fail)
    refine wp_range (n := 9) (gf := 95) (lb := #[.pointer (some ⟨w0.heap.size + 1, 0, none⟩), .pointer (some ⟨w0.heap.size + 2, 0, none⟩), .pointer (some ⟨w0.heap.size, 0, none⟩)]) rfl (enters_of Try.func95 (by kernel_rfl) rfl)
      (closed_iter w1 B l cap nn fn hnn hfn (by omega) (w0.heap.size + 1) (w0.heap.size + 2) w0.heap.size (fun k => k < w.heap.size ∨ k = w0.heap.size) (by omega) (by omega) (by omega) z1.one.1 z2.one.1 z0.one.1 hrX (by omega) (.inr rfl) (fun a e h => .inl (hrb a e h)))
      (Below.refl _ _) (by omega) (by rintro x vs W' ⟨A, c, rfl, _⟩; rfl)
      (fun e pre Y => Hid (∀ x ∈ pre, arF l x ≠ a) ∧ Bx Y w.heap.size 22 #[.slice B l.length cap] ∧ Bx Y (w.heap.size + 1) 3 #[.int .i64 a] ∧ Bx Y (w.heap.size + 2) 22 #[.slice none 0 0] ∧ Bx Y (w.heap.size + 3) 4 #[.bool false] ∧ Bx Y (w.heap.size + 4) 26 #[.int .i64 0] ∧ Below w.heap.size w Y)
      (fun e c pre Y => c = .ret ∧ ∃ (q : List Int) (A : Option Addr) (c : Nat), Hid (q ∈ pre ∧ arF l q = a) ∧ Rd Y A (ints q) ∧ (∀ ad, A = some ad → ints q ≠ [] → w1.heap.size ≤ ad.block ∧ ¬ zone w1.heap.size e ad.block) ∧ Bx Y (w.heap.size + 2) 22 #[.slice A q.length c] ∧ Bx Y (w.heap.size + 3) 4 #[.bool true] ∧ Bx Y (w.heap.size + 4) 26 #[.int .i64 0] ∧ Below w.heap.size w Y) ?hI ?hIx ?h0
      (fun x a' Y => ∃ A c, Rd Y A (ints x) ∧ a' = { tmps := #[.slice B l.length cap, .int .i64 a, .int .i64 nn, .int .i64 fn, .pointer (some ⟨w.heap.size, 0, none⟩), .pointer (some ⟨w.heap.size + 1, 0, none⟩), undef, undef, .pointer (some ⟨w.heap.size + 2, 0, none⟩), .pointer (some ⟨w.heap.size + 3, 0, none⟩), .pointer (some ⟨w.heap.size + 4, 0, none⟩),
        .int .i64 0, .slice A x.length c, .slice B l.length cap, .int .i64 nn, .int .i64 fn, .int .i64 0, .int .i64 0, .bool false, undef, .slice B l.length cap, .int .i64 nn, .int .i64 fn,
        .func (.func 95) #[] #[.pointer (some ⟨w0.heap.size + 1, 0, none⟩), .pointer (some ⟨w0.heap.size + 2, 0, none⟩), .pointer (some ⟨w0.heap.size, 0, none⟩)], .slice A x.length c, undef, undef, undef, undef, undef, undef, undef, undef, undef], defers := [] })
      ?hAx ?assign ?body ?done ?stop
    case hI =>
      rintro e s Y Z ⟨hs, h0, h1, h2, h3, h4, h6⟩ hm
      have hz : ∀ k, k < w1.heap.size → ¬ zone w1.heap.size e k := fun k hk h => by have := h.1; omega
      exact ⟨hs, h0.mod hm (hz _ (by omega)), h1.mod hm (hz _ (by omega)), h2.mod hm (hz _ (by omega)), h3.mod hm (hz _ (by omega)), h4.mod hm (hz _ (by omega)), h6.trans (hm.below h6.size (fun k hk => hz _ (by omega)))⟩
    case hIx =>
      rintro e c s Y Z ⟨hc, q, A, cc, hq, hrd, hnz, h2, h3, h4, h6⟩ hm
      have hz : ∀ k, k < w1.heap.size → ¬ zone w1.heap.size e k := fun k hk h => by have := h.1; omega
      exact ⟨hc, q, A, cc, hq, hrd.mod hm (fun ad h1 h2 _ => (hnz ad h1 h2).2), hnz, h2.mod hm (hz _ (by omega)), h3.mod hm (hz _ (by omega)), h4.mod hm (hz _ (by omega)), h6.trans (hm.below h6.size (fun k hk => hz _ (by omega)))⟩
    case h0 =>
      intro e Y hbY _ _
      have hbX := bl_call hb1 hbY
      exact ⟨(fun x hx => by cases hx), x0.call hbX, x1.call hbX, x2.call hbX, x3.call hbX, x4.call hbX, hb00.trans (hbX.mono (by omega))⟩
    case hAx =>
      rintro x a' Y Z l' o ⟨A, c, hrd, rfl⟩ hl' ⟨r, hr'⟩ rfl
      exact ⟨A, c, hrd.put hr' o, rfl⟩
    case assign =>
      rintro l' e pre x vs Y k he hes _ ⟨A, c, rfl, hrd⟩ hk
      gi_wp2
      exact hk _ _ (Mod.refl _ Y) ⟨A, c, hrd, rfl⟩
    case body =>
      rintro l' e pre x a' Y he hes ⟨t, hpre⟩ ⟨hs, h0, h1, h2, h3, h4, h6⟩ ⟨A, c, hrx, rfl⟩
      have hxl : x.length ≤ 6 := by
        have hmem : x ∈ closedL l fn nn := by rw [hpre]; simp
        rw [pulses_len (f := fn) (n := nn) (List.mem_filter.1 hmem).1]; exact hnn
      obtain ⟨bb, oo, rfl, hbb, hcc⟩ := (hr.later h6).at_ (k := 0) (by simpa using hl0)
      have hc0 := hcc 0 _ (ints_get hl0)
      rw [Nat.add_zero] at hc0
      have HAR : Hid (arF l x = areaP (pathL (l.getD 0 0) x)) := rfl
      generalize l.getD 0 0 = m at hc0 HAR
      have HP := Lib.hid (areaOf_c A x c m Y.drew (by omega) hrx)
      generalize areaP (pathL m x) = q at HP HAR
      obtain ⟨hx0, hy0⟩ := h0.one
      obtain ⟨hx1, hy1⟩ := h1.one
      clear hcc
      have hmix : Try.prog.follows .mixedOrders = true := by kernel_rfl
      by_cases hqa : q = a
      · subst hqa
        gi_wp2_with (fail)
        gi_region_with_o (refine ⟨trivial, ?_⟩; refine (CallsIn.inRound l' (callsIn_wide.2 HP.out)).mono ?_; rintro en w4 ⟨rfl, hb4⟩; have h0' := (h0.drew.call hb4).one; have h1' := (h1.drew.call hb4).one; have hc4 := (hb4.cell (p := ⟨bb, oo, none⟩) hbb).trans hc0)
        all_goals
          have hrx4 : Rd w4 A (ints x) := (show Rd Y.drew A (ints x) from hrx).later hb4
          have k2 := h2.drew.call hb4
          have k3 := h3.drew.call hb4
          have k4 := h4.drew.call hb4
          have m4 : Mod (fun _ => False) Y w4 := (Mod.refl _ Y).drew.call hb4
          have hb6 : Below w.heap.size w w4 := h6.drew.trans (hb4.mono h6.size)
          have hs4 : Y.heap.size ≤ w4.heap.size := hb4.size
          have HCl := Lib.hid (clone_rd A x c w4 (by omega) hrx4)
          clear HP hc0 hx0 hx1 hy0 hy1 hb4 h0' h1' hc4 hmix
          gi_wp2_with (fail)
          refine ⟨trivial, ?_⟩
          refine (CallsIn.inRound l' (callsIn_wide.2 HCl.out)).mono ?_
          rintro en w5 ⟨A5, c5, rfl, hr5, hA5, hb5⟩
          have j2 := k2.call hb5
          have j3 := k3.call hb5
          have j4 := k4.call hb5
          obtain ⟨i2, i2'⟩ := j2.one
          obtain ⟨i3, i3'⟩ := j3.one
          obtain ⟨i4, i4'⟩ := j4.one
          have m5 := m4.call hb5
          have hb7 := bl_call hb6 hb5
          clear HCl
          gi_wp2_with (fail)
          have hnk : ∀ k, w.heap.size ≤ k → k < w.heap.size + 5 → ¬ (k < w.heap.size ∨ k = w0.heap.size) ∧ ¬ zone w1.heap.size e k := fun k h1 h2 => ⟨by omega, fun h => by have := h.1; omega⟩
          refine ⟨(((m5.weak (fun _ h => h.elim)).setCell (.inr (hnk _ (by omega) (by omega))) _).setCell (.inr (hnk _ (by omega) (by omega))) _).setCell (.inr (hnk _ (by omega) (by omega))) _, rfl, x, A5, c5, ⟨by simp, HAR.out⟩, ?_, ?_, ?_, ?_, ?_, ?_⟩
          · refine hr5.mod (S := fun k => w.heap.size ≤ k ∧ k < w.heap.size + 5) ((((Mod.refl _ w5).setCell (.inr ⟨by omega, by omega⟩) _).setCell (.inr ⟨by omega, by omega⟩) _).setCell (.inr ⟨by omega, by omega⟩) _) (fun ad h1 h2 _ h => ?_)
            have h3 := hA5 ad h1 h2
            have h4 := h.2
            omega
          · intro ad h1 h2
            have h3 := hA5 ad h1 h2
            exact ⟨by omega, fun h => by have h5 := h.2; omega⟩
          · exact ((j2.set1 _).far (by omega) _).far (by omega) _
          · exact ((j3.far (by omega) _).set1 _).far (by omega) _
          · exact ((j4.far (by omega) _).far (by omega) _).set1 _
          · exact bl_set (bl_set (bl_set hb7 (by omega) _) (by omega) _) (by omega) _
      · have hqa' : (q == a) = false := by simpa using hqa
        have HNE := Lib.hid hqa
        clear hqa
        gi_wp2_with (fail)
        gi_region_with_o (refine ⟨trivial, ?_⟩; refine (CallsIn.inRound l' (callsIn_wide.2 HP.out)).mono ?_; rintro en w4 ⟨rfl, hb4⟩; have h0' := (h0.drew.call hb4).one; have h1' := (h1.drew.call hb4).one; have hc4 := (hb4.cell (p := ⟨bb, oo, none⟩) hbb).trans hc0)
        all_goals
          have k0 := h0.drew.call hb4
          have k1 := h1.drew.call hb4
          have k2 := h2.drew.call hb4
          have k3 := h3.drew.call hb4
          have k4 := h4.drew.call hb4
          have m4 : Mod (fun _ => False) Y w4 := (Mod.refl _ Y).drew.call hb4
          have hb6 : Below w.heap.size w w4 := h6.drew.trans (hb4.mono h6.size)
          clear HP hc0 hx0 hx1 hy0 hy1 hb4 h0' h1' hc4 hmix
          gi_wp2_with (fail)
          refine ⟨m4.weak (fun _ h => h.elim), fun y hy => ?_, k0, k1, k2, k3, k4, hb6⟩
          rcases List.mem_append.1 hy with hy | hy
          · exact hs.out y hy
          · rw [List.mem_singleton.1 hy, HAR.out]; exact HNE.out
    case stop =>
      rintro D e c pre Y hD hDe hes ⟨t, hpre⟩ ⟨rfl, q, A, cc, hq, hrd, hnz, h2, h3, h4, h6⟩ hK
      have hmem : q ∈ closedL l fn nn := by rw [hpre]; exact List.mem_append_left _ hq.out.1
      have HM := Lib.hid hmem
      clear hmem
      gi_wp2
      refine ⟨by simp, .inl ⟨_, _, rfl, run_takeDeferred hK, ?_⟩⟩
      have hm : Mod (fun k => k = D) Y (Y.putObj D (.deferred none)) := (Mod.refl (fun k => k = D) Y).putObj (.inr rfl) _
      have y2 := (h2.mod hm (by omega)).one.1
      have y3 := (h3.mod hm (by omega)).one.1
      have y4 := (h4.mod hm (by omega)).one.1
      exact ⟨.tuple #[.slice A q.length cc, .bool true, .int .i64 0], by simp [results, Try.f53, go_sem, y2, y3, y4], HFO.out _ _ _ _ _ (.inl ⟨rfl, HM.out, hq.out.2⟩) (hrd.mod hm (fun ad h1 h2 _ h => (hnz ad h1 h2).2 ⟨by have := h; omega, by have := h; omega⟩)) (h6.trans (hm.below h6.size (fun k hk => by omega)))⟩
    case done =>
      rintro D e Y hD hDe hes ⟨hs, h0, h1, h2, h3, h4, h6⟩ hK
      obtain ⟨hx2, hy2⟩ := h2.one
      obtain ⟨hx3, hy3⟩ := h3.one
      obtain ⟨hx4, hy4⟩ := h4.one
      gi_wp2
      have y2 := ((h2.set1 (.slice none 0 0)).far (g' := w.heap.size + 3) (i := 0) (by omega) (.bool false)).far (g' := w.heap.size + 4) (i := 0) (by omega) (.int .i64 0)
      have y3 := ((h3.far (g' := w.heap.size + 2) (i := 0) (by omega) (.slice none 0 0)).set1 (.bool false)).far (g' := w.heap.size + 4) (i := 0) (by omega) (.int .i64 0)
      have y4 := ((h4.far (g' := w.heap.size + 2) (i := 0) (by omega) (.slice none 0 0)).far (g' := w.heap.size + 3) (i := 0) (by omega) (.bool false)).set1 (.int .i64 0)
      have hK' := ((Below.heap_setCell _ ⟨w.heap.size + 4, 0, none⟩ (.int .i64 0) _ (show D ≠ w.heap.size + 4 by omega)).trans ((Below.heap_setCell _ ⟨w.heap.size + 3, 0, none⟩ (.bool false) _ (show D ≠ w.heap.size + 3 by omega)).trans (Below.heap_setCell Y ⟨w.heap.size + 2, 0, none⟩ (.slice none 0 0) _ (show D ≠ w.heap.size + 2 by omega)))).trans hK
      refine ⟨by simp, .inl ⟨_, _, rfl, run_takeDeferred hK', ?_⟩⟩
      have z2 := (y2.put (l := D) (by omega) (.deferred none)).one.1
      have z3 := (y3.put (l := D) (by omega) (.deferred none)).one.1
      have z4 := (y4.put (l := D) (by omega) (.deferred none)).one.1
      exact ⟨.tuple #[.slice none 0 0, .bool false, .int .i64 0], by simp [results, Try.f53, go_sem, z2, z3, z4], HFO.out none 0 [] false _ (.inr ⟨rfl, rfl, hs.out⟩) (.inl rfl) (bl_put (bl_set (bl_set (bl_set h6 (by omega) _) (by omega) _) (by omega) _) (by omega) _)⟩
  · have hE' : (searchE l n f != 0) = true := by simpa using hE
    have HFO : Hid (∀ w', Below w.heap.size w w' → FindOut l a n f w (.returned (.tuple #[.slice none 0 0, .bool false, .int .i64 (searchE l n f)])) w') := fun w' h => ⟨none, 0, [], false, rfl, ⟨fun h => absurd h hE, fun _ => ⟨rfl, rfl⟩⟩, .inl rfl, h⟩
    generalize FindOut l a n f w = FO at HFO
    generalize searchE l n f = E at hvs hE' HFO
    have HVS := Lib.hid hvs
    clear hvs hE
    go_enter Try.func53, Try.ntmps53
    go_wp2_with (fail)
    refine HVS.out.mono ?_
    rintro e w' ⟨rfl, rfl⟩
    have x0 : Bx (((((w.alloc (.cells #[.slice B l.length cap] 22)).alloc (.cells #[.int .i64 a] 3)).alloc (.cells #[.slice none 0 0] 22)).alloc (.cells #[.bool false] 4)).alloc (.cells #[.int .i64 0] 26)) w.heap.size 22 #[.slice B l.length cap] := ((((Bx.newAt rfl).alloc _).alloc _).alloc _).alloc _
    have x1 : Bx (((((w.alloc (.cells #[.slice B l.length cap] 22)).alloc (.cells #[.int .i64 a] 3)).alloc (.cells #[.slice none 0 0] 22)).alloc (.cells #[.bool false] 4)).alloc (.cells #[.int .i64 0] 26)) (w.heap.size + 1) 3 #[.int .i64 a] := (((Bx.newAt (by simp)).alloc _).alloc _).alloc _
    have x2 : Bx (((((w.alloc (.cells #[.slice B l.length cap] 22)).alloc (.cells #[.int .i64 a] 3)).alloc (.cells #[.slice none 0 0] 22)).alloc (.cells #[.bool false] 4)).alloc (.cells #[.int .i64 0] 26)) (w.heap.size + 2) 22 #[.slice none 0 0] := ((Bx.newAt (by simp)).alloc _).alloc _
    have x3 : Bx (((((w.alloc (.cells #[.slice B l.length cap] 22)).alloc (.cells #[.int .i64 a] 3)).alloc (.cells #[.slice none 0 0] 22)).alloc (.cells #[.bool false] 4)).alloc (.cells #[.int .i64 0] 26)) (w.heap.size + 3) 4 #[.bool false] := (Bx.newAt (by simp)).alloc _
    have x4 : Bx (((((w.alloc (.cells #[.slice B l.length cap] 22)).alloc (.cells #[.int .i64 a] 3)).alloc (.cells #[.slice none 0 0] 22)).alloc (.cells #[.bool false] 4)).alloc (.cells #[.int .i64 0] 26)) (w.heap.size + 4) 26 #[.int .i64 0] := Bx.newAt (by simp)
    have hsz : (((((w.alloc (.cells #[.slice B l.length cap] 22)).alloc (.cells #[.int .i64 a] 3)).alloc (.cells #[.slice none 0 0] 22)).alloc (.cells #[.bool false] 4)).alloc (.cells #[.int .i64 0] 26)).heap.size = w.heap.size + 5 := by simp
    have hr0 := hr.later hb00
    generalize ((((w.alloc (.cells #[.slice B l.length cap] 22)).alloc (.cells #[.int .i64 a] 3)).alloc (.cells #[.slice none 0 0] 22)).alloc (.cells #[.bool false] 4)).alloc (.cells #[.int .i64 0] 26) = w0 at hb00 x0 x1 x2 x3 x4 hsz hr0 ⊢
    replace hsz : w.heap.size + 5 ≤ w0.heap.size := Nat.le_of_eq hsz.symm
    simp only [Nat.add_assoc, Nat.reduceAdd] at *
    obtain ⟨hx0, hy0⟩ := x0.one
    obtain ⟨hx1, hy1⟩ := x1.one
    obtain ⟨hx2, hy2⟩ := x2.one
    obtain ⟨hx3, hy3⟩ := x3.one
    obtain ⟨hx4, hy4⟩ := x4.one
    go_wp2_with (fail)
    have y2 := ((x2.set1 (.slice none 0 0)).far (g' := w.heap.size + 3) (i := 0) (by omega) (.bool false)).far (g' := w.heap.size + 4) (i := 0) (by omega) (.int .i64 E)
    have y3 := ((x3.far (g' := w.heap.size + 2) (i := 0) (by omega) (.slice none 0 0)).set1 (.bool false)).far (g' := w.heap.size + 4) (i := 0) (by omega) (.int .i64 E)
    have y4 := ((x4.far (g' := w.heap.size + 2) (i := 0) (by omega) (.slice none 0 0)).far (g' := w.heap.size + 3) (i := 0) (by omega) (.bool false)).set1 (.int .i64 E)
    exact bodyPost_ret (v := .tuple #[.slice none 0 0, .bool false, .int .i64 E]) (by simp [results, Try.results53, go_sem, y2.one.1, y3.one.1, y4.one.1]) rfl (HFO.out _ (bl_set (bl_set (bl_set hb00 (by omega) _) (by omega) _) (by omega) _))
end Go.Proofs.Ytpjdojjdhbmbjaa
