/- The first one of options: slices.MinFunc with package budget's comparison. -/
import Derived.Test.YtgbjglkiaoplmaaDelO
namespace Go.Proofs.Ytgbjglkiaoplmaa
open Go.RowKit

theorem cmpI_zero {a b : Int} : cmpI a b = 0 ↔ a = b := by unfold cmpI; split <;> (try split) <;> constructor <;> intro h <;> first | omega | (exfalso; revert h; decide)
theorem cmpI_neg {a b : Int} : cmpI a b < 0 ↔ a < b := by unfold cmpI; split <;> (try split) <;> constructor <;> intro h <;> first | omega | (exfalso; revert h; decide)
theorem cmpL_neg : ∀ {a b : List Int}, cmpL a b < 0 ↔ ltL a b = true
  | [], [] => by simp [cmpL, ltL]
  | [], _ :: _ => by simp [cmpL, ltL]
  | _ :: _, [] => by simp [cmpL, ltL]
  | x :: s, y :: t => by
    rw [ltL_cons, cmpL]
    by_cases h : cmpI x y = 0
    · rw [if_pos h, cmpL_neg]
      have := cmpI_zero.1 h
      constructor
      · intro h2; exact .inr ⟨this, h2⟩
      · rintro (h2 | ⟨_, h2⟩)
        · omega
        · exact h2
    · rw [if_neg h, cmpI_neg]
      constructor
      · intro h2; exact .inl h2
      · rintro (h2 | ⟨h2, _⟩)
        · exact h2
        · exact absurd (cmpI_zero.2 h2) h
theorem cmpO_neg {o p : Op} : cmpO o p < 0 ↔ ltL (keyO o) (keyO p) = true := by
  have h : cmpO o p = cmpL (keyO o) (keyO p) := by
    unfold cmpO keyO
    rw [cmpL]
  rw [h, cmpL_neg]
/-- Which one of the first k + 1 it is. -/
def minI (L : List VO) : Nat → Nat
  | 0 => 0
  | k + 1 => if ltL (keyO (L.getD (k + 1) vo0).2) (keyO (L.getD (minI L k) vo0).2) = true then k + 1 else minI L k
theorem minI_le (L : List VO) : ∀ k, minI L k ≤ k
  | 0 => Nat.le_refl _
  | k + 1 => by
    have := minI_le L k
    rw [minI]
    split <;> omega
theorem minI_fold {L : List VO} {a : Op} {t : List Op} (h : L.map (·.2) = a :: t) : ∀ k, k ≤ t.length → (L.getD (minI L k) vo0).2 = (t.take k).foldl (fun m x => if ltL (keyO x) (keyO m) = true then x else m) a
  | 0, _ => by
    cases L with
    | nil => cases h
    | cons x L => injection h with h1 _
  | k + 1, hk => by
    have ih := minI_fold h k (by omega)
    have hl : L.length = t.length + 1 := by have := congrArg List.length h; simpa using this
    have hx : (L.getD (k + 1) vo0).2 = t[k] := by
      have h1 : (L.map (·.2))[k + 1]? = some t[k] := by rw [h]; simp
      rw [List.getElem?_map, List.getElem?_eq_getElem (by omega)] at h1
      have h2 : L.getD (k + 1) vo0 = L[k + 1] := by rw [List.getD_eq_getElem?_getD, List.getElem?_eq_getElem (by omega)]; rfl
      rw [h2]; simpa using h1
    rw [minI, List.take_succ_eq_append_getElem (by omega), List.foldl_append, ← ih, ← hx]
    simp only [List.foldl_cons, List.foldl_nil]
    split <;> rfl
theorem minI_least {L : List VO} (h : 0 < L.length) : leastF keyO (L.map (·.2)) = some (L.getD (minI L (L.length - 1)) vo0).2 := by
  rcases hm : L.map (·.2) with _ | ⟨a, t⟩
  · have := congrArg List.length hm; simp at this; rw [this] at h; simp at h
  · have hl : L.length = t.length + 1 := by have := congrArg List.length hm; simpa using this
    have h2 := minI_fold hm (L.length - 1) (by omega)
    rw [List.take_of_length_le (by omega)] at h2
    rw [h2, hm]; rfl
/-- Choices where they lie. -/
def OT (w : World) (base : Nat) (L : List VO) : Prop := ∀ k, k < L.length → ∃ A c, (L.getD k vo0).1 = .slice A (L.getD k vo0).2.c.length c ∧ w.ownsRow base 3 1 (.slice A (L.getD k vo0).2.c.length c) (L.getD k vo0).2.c.length (ints (L.getD k vo0).2.c)
theorem OT.call {w w' : World} {base : Nat} {L : List VO} (h : OT w base L) (hb : Below w.heap.size w w') : OT w' base L := fun k hk => by
  obtain ⟨A, c, h1, h2⟩ := h k hk
  exact ⟨A, c, h1, own_call h2 hb⟩
theorem Tab.ot {w : World} {base : Nat} {L : List VO} (h : Tab w base (L.map (·.1)) (L.map (·.2.c))) : OT w base L := fun k hk => by
  obtain ⟨A, c, h1, h2⟩ := h.2 k (by simpa using hk)
  have e1 : (L.map (·.2.c)).getD k [] = (L.getD k vo0).2.c := by simp [hk]
  rw [List.getElem?_map, List.getElem?_eq_getElem hk] at h1
  have e2 : L.getD k vo0 = L[k] := by simp [hk]
  rw [e1] at h1 h2
  refine ⟨A, c, ?_, h2⟩
  have h3 : some L[k].1 = some (Value.slice A (L.getD k vo0).2.c.length c) := h1
  have h4 := Option.some.inj h3
  rw [← h4, e2]
theorem rd_set4 {w : World} {base T n c g : Nat} {A : Option Addr} {xs : List Value} (h : w.ownsRow base T 1 (.slice A n c) n xs) (hg : g < base) (x y z u : Value) :
    Rd ((((w.setCell ⟨g, 0, none⟩ x).setCell ⟨g, 1, none⟩ y).setCell ⟨g, 2, none⟩ z).setCell ⟨g, 3, none⟩ u) A xs := by
  have hm : Mod (fun k => k = g) w ((((w.setCell ⟨g, 0, none⟩ x).setCell ⟨g, 1, none⟩ y).setCell ⟨g, 2, none⟩ z).setCell ⟨g, 3, none⟩ u) := ((((Mod.refl (fun k => k = g) w).setCell (.inr rfl) x).setCell (.inr rfl) y).setCell (.inr rfl) z).setCell (.inr rfl) u
  refine (own_rd h).1.mod hm (fun a ha hne _ hS => ?_)
  rcases h.2 with ⟨h0, _⟩ | ⟨g', cap, cur, hv, hbg, _⟩
  · simp only [Value.slice.injEq] at h0
    rw [ha] at h0; cases h0.1
  · simp only [Value.slice.injEq] at hv
    rw [ha] at hv
    have := Option.some.inj hv.1
    subst this
    have : g' = g := hS
    omega
def boxO (a : VO) : Array Value := #[a.1, .int .i64 a.2.k, .int .i64 (rat a.2.p).1, .int .i64 (rat a.2.p).2]
theorem Bx.set4 {w : World} {g : Nat} {T : TypeId} {a b c d : Value} (h : Bx w g T #[a, b, c, d]) (x y z u : Value) : Bx ((((w.setCell ⟨g, 0, none⟩ x).setCell ⟨g, 1, none⟩ y).setCell ⟨g, 2, none⟩ z).setCell ⟨g, 3, none⟩ u) g T #[x, y, z, u] := (((h.set 0 x).set 1 y).set 2 z).set 3 u
theorem Bx.far4 {w : World} {g g' : Nat} {T : TypeId} {cs : Array Value} (h : Bx w g T cs) (hn : g ≠ g') (x y z u : Value) : Bx ((((w.setCell ⟨g', 0, none⟩ x).setCell ⟨g', 1, none⟩ y).setCell ⟨g', 2, none⟩ z).setCell ⟨g', 3, none⟩ u) g T cs := (((h.far hn x).far hn y).far hn z).far hn u
theorem Bx.free4 {w : World} {g : Nat} {T : TypeId} {cs : Array Value} (h : Bx w g T cs) : w.frozen? ⟨g, 0, none⟩ = false ∧ w.frozen? ⟨g, 1, none⟩ = false ∧ w.frozen? ⟨g, 2, none⟩ = false ∧ w.frozen? ⟨g, 3, none⟩ = false := ⟨h.free 0, h.free 1, h.free 2, h.free 3⟩
theorem bl_set4 {a b : World} (h : Below a.heap.size a b) {g : Nat} (hp : a.heap.size ≤ g) (x y z u : Value) : Below a.heap.size a ((((b.setCell ⟨g, 0, none⟩ x).setCell ⟨g, 1, none⟩ y).setCell ⟨g, 2, none⟩ z).setCell ⟨g, 3, none⟩ u) := bl_set (bl_set (bl_set (bl_set h hp x) hp y) hp z) hp u
/-- The first one of the options. -/
def OutM (L : List VO) (w : World) (e : Ending) (w' : World) : Prop := e = .returned (.agg (boxO (L.getD (minI L (L.length - 1)) vo0))) ∧ Below w.heap.size w w'
set_option maxRecDepth 100000 in
set_option maxHeartbeats 4000000 in
theorem minO_c (A : Option Addr) (L : List VO) (cap : Nat) (w : World) (hp : 0 < L.length) (hlen : L.length ≤ 1000) (hc8 : ∀ k, k < L.length → (L.getD k vo0).2.c.length ≤ 8) (base : Nat) (hot : OT w base L) (hr : Rd w A (cellsO L)) :
    Calls Try.prog 106 #[.slice A L.length cap, .func (.func 107) #[] #[]] w (OutM L w) := by
  have HFIN : Hid (∀ w', Below w.heap.size w w' → OutM L w (.returned (.agg (boxO (L.getD (minI L (L.length - 1)) vo0)))) w') := fun w' h => ⟨rfl, h⟩
  generalize OutM L w = FO at HFIN ⊢
  obtain ⟨b, o, rfl, hbl, d0, d1, d2, d3⟩ := hr.opt hp
  rw [Nat.zero_mul, Nat.add_zero] at d0 d1 d2 d3
  obtain ⟨A0, c0, hv0, _⟩ := hot 0 hp
  have hE0 : boxO (L.getD 0 vo0) = #[.slice A0 (L.getD 0 vo0).2.c.length c0, .int .i64 (L.getD 0 vo0).2.k, .int .i64 (rat (L.getD 0 vo0).2.p).1, .int .i64 (rat (L.getD 0 vo0).2.p).2] := by rw [← hv0]; rfl
  have HE0 := Lib.hid hE0
  rw [hv0] at d0
  clear hE0 hv0
  replace hot := Lib.hid hot
  replace hc8 := Lib.hid hc8
  replace hr := Lib.hid hr
  have hpp : (0 : Int) < (L.length : Int) := by omega
  have hnl : ¬ (L.length : Int) < 1 := by omega
  have hnl2 : ¬ L.length < 1 := by omega
  generalize (L.getD 0 vo0).2.c.length = n0 at *
  generalize (L.getD 0 vo0).2.k = k0 at *
  generalize (rat (L.getD 0 vo0).2.p).1 = u0 at *
  generalize (rat (L.getD 0 vo0).2.p).2 = v0 at *
  have hx0 : Bx (w.alloc (.cells #[.slice none 0 0, .int .i64 0, .int .i64 0, .int .i64 0] 95)) w.heap.size 95 #[.slice none 0 0, .int .i64 0, .int .i64 0, .int .i64 0] := Bx.new w _ _
  have hb0 := bl_alloc (Below.refl w.heap.size w) (.cells #[.slice none 0 0, .int .i64 0, .int .i64 0, .int .i64 0] 95)
  have hx5 : Bx ((w.alloc (.cells #[.slice none 0 0, .int .i64 0, .int .i64 0, .int .i64 0] 95)).alloc (.cells #[.slice A0 n0 c0, .int .i64 k0, .int .i64 u0, .int .i64 v0] 95)) (w.heap.size + 1) 95 #[.slice A0 n0 c0, .int .i64 k0, .int .i64 u0, .int .i64 v0] := Bx.newAt (by simp)
  have hx4 := hx0.alloc (.cells #[.slice A0 n0 c0, .int .i64 k0, .int .i64 u0, .int .i64 v0] 95)
  have hb5 := bl_alloc hb0 (.cells #[.slice A0 n0 c0, .int .i64 k0, .int .i64 u0, .int .i64 v0] 95)
  have HV0 : Hid (minI L 0 = 0) := rfl
  have HMI : Hid (∀ k, minI L (k + 1) = if ltL (keyO (L.getD (k + 1) vo0).2) (keyO (L.getD (minI L k) vo0).2) = true then k + 1 else minI L k) := fun k => rfl
  have HML := Lib.hid (minI_le L)
  go_enter Try.func106, Try.ntmps106
  go_wp2_with (fail)
  clear d0 d1 d2 d3 hx0 hb0
  generalize (w.alloc (.cells #[.slice none 0 0, .int .i64 0, .int .i64 0, .int .i64 0] 95)).alloc (.cells #[.slice A0 n0 c0, .int .i64 k0, .int .i64 u0, .int .i64 v0] 95) = w0 at *
  go_loopg [6] (L.length - 1) (fun gk iv wr => ∃ q : Nat, Hid (q + gk = L.length) ∧ 1 ≤ q ∧ iv = .int .i64 (q : Int) ∧ Bx wr w.heap.size 95 #[.slice none 0 0, .int .i64 0, .int .i64 0, .int .i64 0] ∧ Bx wr (w.heap.size + 1) 95 (boxO (L.getD (minI L (q - 1)) vo0)) ∧ Below w.heap.size w wr)
  case atStart => exact ⟨1, by show _ = _; omega, Nat.le_refl _, rfl, hx4, by rw [show 1 - 1 = 0 from rfl, HV0.out, HE0.out]; exact hx5, hb5⟩
  case round =>
    clear hx4 hx5 hb5
    obtain ⟨q, HK, hq1, rfl, hx4, hx5, hb⟩ := hrel
    have hqq : q - 1 + 1 = q := by omega
    have HIK0 := HMI.out (q - 1)
    have HLK := HML.out (q - 1)
    rw [hqq] at HIK0
    obtain ⟨k, hk0⟩ : ∃ k, k = q - 1 := ⟨_, rfl⟩
    rw [← hk0] at hx5 HIK0 HLK
    have HK0 := Lib.hid hk0
    clear hqq hk0
    have hml : minI L k < L.length := by have := HK0.out; have := HK.out; omega
    obtain ⟨Am, cm, hvm, hrm⟩ := hot.out _ hml
    have HRm := Lib.hid (own_rd hrm).1
    clear hrm
    have HEm : Hid (boxO (L.getD (minI L k) vo0) = #[.slice Am (L.getD (minI L k) vo0).2.c.length cm, .int .i64 (L.getD (minI L k) vo0).2.k, .int .i64 (rat (L.getD (minI L k) vo0).2.p).1, .int .i64 (rat (L.getD (minI L k) vo0).2.p).2]) := by show _ = _; rw [← hvm]; rfl
    clear hvm
    rw [HEm.out] at hx5
    rcases gk with _ | gi
    · have hk : k = L.length - 1 := by have := HK.out; have := HK0.out; omega
      have hge : ¬ (q : Int) < (L.length : Int) := by have := HK.out; omega
      have hge2 : ¬ q < L.length := by omega
      have HF2 := HFIN.out
      rw [← hk, HEm.out] at HF2
      replace HF2 := Lib.hid HF2
      clear hk HEm HIK0 HRm HFIN
      generalize (L.getD (minI L k) vo0).2.c.length = n at *
      generalize (L.getD (minI L k) vo0).2.k = kk at *
      generalize (rat (L.getD (minI L k) vo0).2.p).1 = u at *
      generalize (rat (L.getD (minI L k) vo0).2.p).2 = v at *
      obtain ⟨y0, y1, y2, y3⟩ := hx4.four
      obtain ⟨z0, z1, z2, z3⟩ := hx4.free4
      obtain ⟨a0, a1, a2, a3⟩ := hx5.four
      have HX := Lib.hid (hx4.set4 (.slice Am n cm) (.int .i64 kk) (.int .i64 u) (.int .i64 v))
      have hbs := bl_set4 hb (g := w.heap.size) (Nat.le_refl _) (.slice Am n cm) (.int .i64 kk) (.int .i64 u) (.int .i64 v)
      go_wp2_with (fail)
      refine bodyPost_ret (results_cell_row rfl _ _ w.heap.size 95 _ (0, 0) _ rfl HX.out Try.underlying95 rfl (by kernel_rfl)) rfl ?_
      exact HF2.out _ hbs
    · have hkN : q < L.length := by have := HK.out; omega
      have hlt : (q : Int) < (L.length : Int) := by omega
      have HIK := Lib.hid HIK0
      clear HIK0
      have hdr : Below wr.heap.size wr wr.drew := (Below.refl _ _).drew
      obtain ⟨Aq, cq, hvq, hrq⟩ := hot.out q hkN
      have HRq := Lib.hid (own_rd hrq).1
      clear hrq
      have HEq : Hid (boxO (L.getD q vo0) = #[.slice Aq (L.getD q vo0).2.c.length cq, .int .i64 (L.getD q vo0).2.k, .int .i64 (rat (L.getD q vo0).2.p).1, .int .i64 (rat (L.getD q vo0).2.p).2]) := by show _ = _; rw [← hvq]; rfl
      have HCK : Hid (∀ W, Below wr.heap.size wr W → W.cell? ⟨b, o + q * 4, none⟩ = some (.slice Aq (L.getD q vo0).2.c.length cq) ∧ W.cell? ⟨b, o + q * 4 + 1, none⟩ = some (.int .i64 (L.getD q vo0).2.k) ∧ W.cell? ⟨b, o + q * 4 + 2, none⟩ = some (.int .i64 (rat (L.getD q vo0).2.p).1) ∧ W.cell? ⟨b, o + q * 4 + 3, none⟩ = some (.int .i64 (rat (L.getD q vo0).2.p).2)) := fun W hW => by
        obtain ⟨b', o', he, _, h0, h1, h2, h3⟩ := (hr.out.later (bl_call hb hW)).opt hkN
        cases he
        rw [hvq] at h0
        exact ⟨h0, h1, h2, h3⟩
      clear hvq
      have HSM := Lib.hid (ocompare_c Aq Am (L.getD q vo0).2 (L.getD (minI L k) vo0).2 cq cm (rat (L.getD q vo0).2.p).1 (rat (L.getD q vo0).2.p).2 (rat (L.getD (minI L k) vo0).2.p).1 (rat (L.getD (minI L k) vo0).2.p).2 wr.drew (by have := hc8.out q hkN; omega) ((HRq.out.later hb).later hdr) ((HRm.out.later hb).later hdr))
      have hcn : cmpO (L.getD q vo0).2 (L.getD (minI L k) vo0).2 < 0 ↔ ltL (keyO (L.getD q vo0).2) (keyO (L.getD (minI L k) vo0).2) = true := cmpO_neg
      clear HRq HRm
      generalize cmpO (L.getD q vo0).2 (L.getD (minI L k) vo0).2 = cc at *
      generalize ltL (keyO (L.getD q vo0).2) (keyO (L.getD (minI L k) vo0).2) = zz at *
      generalize (L.getD q vo0).2.c.length = nq at *
      generalize (L.getD q vo0).2.k = kq at *
      generalize (rat (L.getD q vo0).2.p).1 = uq at *
      generalize (rat (L.getD q vo0).2.p).2 = vq at *
      generalize (L.getD (minI L k) vo0).2.c.length = nm at *
      generalize (L.getD (minI L k) vo0).2.k = km at *
      generalize (rat (L.getD (minI L k) vo0).2.p).1 = um at *
      generalize (rat (L.getD (minI L k) vo0).2.p).2 = vm at *
      have HX5 := Lib.hid (fun W (hW : Below wr.heap.size wr W) => (hx5.call hW).four)
      have Hcn := Lib.hid hcn
      clear hcn
      go_wp2_with (fail)
      obtain ⟨a0, a1, a2, a3⟩ := HX5.out _ hdr
      obtain ⟨p0, p1, p2, p3⟩ := HCK.out _ hdr
      go_region_law (go_simp; refine HSM.out.mono ?_; rintro e w9 ⟨rfl, hb9'⟩; try go_simp)
      all_goals
        have hb9 : Below wr.heap.size wr w9 := bl_call hdr hb9'
        have hb09 := bl_call hb hb9
        have hx49 := hx4.call hb9
        have hx59 := hx5.call hb9
        obtain ⟨c0', c1', c2', c3'⟩ := HCK.out w9 hb9
        obtain ⟨z0, z1, z2, z3⟩ := hx59.free4
        obtain ⟨t0, t1, t2, t3⟩ := hx59.four
        clear p0 p1 p2 p3 a0 a1 a2 a3 HSM
        cases zz with
        | true =>
          have hc : cc < 0 := Hcn.out.2 rfl
          have HIK2 := Lib.hid (HIK.out.trans (if_pos rfl))
          have HX6 := Lib.hid (hx59.set4 (.slice Aq nq cq) (.int .i64 kq) (.int .i64 uq) (.int .i64 vq))
          have HX4 := Lib.hid (hx49.far4 (g' := w.heap.size + 1) (by omega) (.slice Aq nq cq) (.int .i64 kq) (.int .i64 uq) (.int .i64 vq))
          have hbs := bl_set4 hb09 (g := w.heap.size + 1) (by omega) (.slice Aq nq cq) (.int .i64 kq) (.int .i64 uq) (.int .i64 vq)
          go_wp2_with (fail)
          go_roundg gi
          case rel => exact ⟨q + 1, by have := HK.out; show _ = _; omega, by omega, by go_num, HX4.out, by rw [Nat.add_sub_cancel, HIK2.out, HEq.out]; exact HX6.out, hbs⟩
          case measure => omega
        | false =>
          have hc : ¬ cc < 0 := fun h => absurd (Hcn.out.1 h) (by decide)
          have HIK2 := Lib.hid (HIK.out.trans (if_neg (by decide)))
          go_wp2_with (fail)
          go_roundg gi
          case rel => exact ⟨q + 1, by have := HK.out; show _ = _; omega, by omega, by go_num, hx49, by rw [Nat.add_sub_cancel, HIK2.out, HEm.out]; exact hx59, hb09⟩
          case measure => omega
end Go.Proofs.Ytgbjglkiaoplmaa
