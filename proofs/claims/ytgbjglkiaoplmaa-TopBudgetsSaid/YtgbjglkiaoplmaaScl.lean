/- All uses multiplied: package budget's Scale and the document's. -/
import Derived.Test.YtgbjglkiaoplmaaShr
import Derived.Test.YtgbjglkiaoplmaaRva
namespace Go.Proofs.Ytgbjglkiaoplmaa
open Go.RowKit

def mapK (f : It → It) (l : List It) (k : Nat) : List It := (l.take k).map f ++ l.drop k
theorem mapK_len (f : It → It) (l : List It) (k : Nat) : (mapK f l k).length = l.length := by simp [mapK]; omega
theorem mapK_end (f : It → It) (l : List It) : mapK f l l.length = l.map f := by simp [mapK]
theorem mapK_zero (f : It → It) (l : List It) : mapK f l 0 = l := by simp [mapK]
theorem mapK_get {f : It → It} {l : List It} {k : Nat} (hk : k < l.length) : (mapK f l k).getD k it0 = l.getD k it0 := by
  unfold mapK
  rw [List.getD_eq_getElem?_getD, List.getElem?_append_right (by simp; omega)]
  simp [show min k l.length = k by omega]
theorem mapK_set {f : It → It} {l : List It} {k : Nat} (hk : k < l.length) : (mapK f l k).set k (f (l.getD k it0)) = mapK f l (k + 1) := by
  have hl : ((l.take k).map f).length = k := by simp; omega
  have he : l.getD k it0 = l[k] := by simp [hk]
  unfold mapK
  rw [List.set_append, if_neg (by omega), hl, Nat.sub_self, List.drop_eq_getElem_cons hk, List.set_cons_zero, he, List.take_succ_eq_append_getElem hk, List.map_append, List.append_assoc]
  rfl
theorem cellsI_setU : ∀ (M : List It) (k : Nat) (x : Int), (cellsI M).set (k * 3) (.int .i64 x) = cellsI (M.set k ⟨x, (M.getD k it0).n, (M.getD k it0).d⟩)
  | [], k, x => by simp [cellsI]
  | a :: t, 0, x => rfl
  | a :: t, k + 1, x => by
    have ih := cellsI_setU t k x
    have e : (k + 1) * 3 = k * 3 + 1 + 1 + 1 := by omega
    show ([Value.int .i64 a.u, .int .i64 a.n, .int .i64 a.d] ++ cellsI t).set ((k + 1) * 3) _ = _
    rw [e]
    show Value.int .i64 a.u :: .int .i64 a.n :: .int .i64 a.d :: (cellsI t).set (k * 3) (.int .i64 x) = _
    rw [ih]
    rfl
theorem own_putU {w : World} {base c k n : Nat} {T : TypeId} {A : Option Addr} {M : List It} (h : w.ownsRow base T 3 (.slice A n c) n (cellsI M)) (hn : M.length = n) (hk : k < n) :
    ∃ g, A = some ⟨g, 0, none⟩ ∧ base ≤ g ∧ g < w.heap.size ∧ w.frozen? ⟨g, k * 3, none⟩ = false ∧ w.cell? ⟨g, k * 3, none⟩ = some (.int .i64 (M.getD k it0).u) ∧
      ∀ x, (w.setCell ⟨g, k * 3, none⟩ (.int .i64 x)).ownsRow base T 3 (.slice A n c) n (cellsI (M.set k ⟨x, (M.getD k it0).n, (M.getD k it0).d⟩)) := by
  obtain ⟨g, rfl, hb, hgl, _, ⟨h0, _, _⟩, _⟩ := own_putI h hn hk
  refine ⟨g, rfl, hb, hgl, h.frozenAt _, h0, fun x => ?_⟩
  rw [← cellsI_setU]
  exact (h.stored _ _).1
def scB (b u : Int) : Bool := decide (1 ≤ b ∧ u * b ≤ 8)
def scI (b : Int) (x : It) : It := ⟨x.u * b, x.n, x.d⟩
def scE (b : Int) (l : List It) : Int := if valE l = 0 then (if ∀ k, k < l.length → scB b (l.getD k it0).u = true then 0 else 1) else valE l
def scL (b : Int) (l : List It) : List It := if scE b l = 0 then l.map (scI b) else []
theorem sc_bad {b : Int} {l : List It} (h : valE l ≠ 0) : scE b l = valE l ∧ scL b l = [] := by
  have e : scE b l = valE l := by unfold scE; rw [if_neg h]
  exact ⟨e, by unfold scL; rw [e, if_neg h]⟩
theorem sc_all {b : Int} {l : List It} (h : valE l = 0) (ha : ∀ k, k < l.length → scB b (l.getD k it0).u = true) : scE b l = 0 ∧ scL b l = l.map (scI b) := by
  have e : scE b l = 0 := by unfold scE; rw [if_pos h, if_pos ha]
  exact ⟨e, by unfold scL; rw [if_pos e]⟩
theorem sc_not {b : Int} {l : List It} (h : valE l = 0) {k : Nat} (hk : k < l.length) (hn : scB b (l.getD k it0).u = false) : scE b l = 1 ∧ scL b l = [] := by
  have e : scE b l = 1 := by unfold scE; rw [if_pos h, if_neg]; intro ha; have := ha k hk; rw [hn] at this; cases this
  exact ⟨e, by unfold scL; rw [e]; rfl⟩
/-- Items in a row of their own, and an error. -/
def OutIt (L : List It) (z : Int) (w : World) (e : Ending) (w' : World) : Prop :=
  ∃ A c, e = .returned (.tuple #[.slice A L.length c, .int .i64 z]) ∧ w'.ownsRow w.heap.size 50 3 (.slice A L.length c) L.length (cellsI L) ∧ Below w.heap.size w w'
set_option maxRecDepth 100000 in
set_option maxHeartbeats 4000000 in
theorem Scale_c (A : Option Addr) (l : List It) (cap : Nat) (b : Int) (w : World) (hlen : l.length ≤ 1000) (hr : Rd w A (cellsI l)) :
    Calls Try.prog 56 #[.slice A l.length cap, .int .i64 b] w (OutIt (scL b l) (scE b l) w) := by
  have HV := Lib.hid (Validate_c A l cap w hlen hr)
  by_cases hv : valE l = 0
  rotate_left
  · obtain ⟨h1, h2⟩ := sc_bad (b := b) hv
    have hv' : (valE l == 0) = false := by rw [beq_eq_false_iff_ne]; exact hv
    rw [h1, h2]
    clear h1 h2
    generalize valE l = z at *
    go_enter Try.func56, Try.ntmps56
    go_wp2_with (fail)
    refine HV.out.mono ?_
    rintro e w1 ⟨rfl, hb1⟩
    go_wp2_with (fail)
    go_ret2
    exact ⟨none, 0, rfl, World.ownsRow_nil _ _ _ _, hb1⟩
  · have HOK := Lib.hid (valE_ok hv).2
    have HA := Lib.hid (sc_all (b := b) hv)
    have HN := Lib.hid (fun k (hk : k < l.length) => @sc_not b l hv k hk)
    have HC := fun w1 h => Lib.hid (cloneI_c A l cap w1 hlen h)
    rw [hv] at HV
    clear hv
    generalize scE b l = E at *
    generalize scL b l = S at *
    go_enter Try.func56, Try.ntmps56
    go_wp2_with (fail)
    refine HV.out.mono ?_
    rintro e w1 ⟨rfl, hb1⟩
    go_wp2_with (fail)
    refine (HC _ (hr.later hb1)).out.mono ?_
    rintro e w2 ⟨A2, c2, rfl, ho2, hb2⟩
    have hb12 := bl_call hb1 hb2
    have ho2 := own_base ho2 hb1.size
    clear hb1 hb2
    go_wp2_with (fail)
    go_loopg [19] l.length (fun gk iv wr => ∃ k : Nat, Hid (k + gk = l.length) ∧ iv = .int .i64 (k : Int) ∧ Hid (∀ j, j < k → scB b (l.getD j it0).u = true) ∧ wr.ownsRow w.heap.size 50 3 (.slice A2 l.length c2) l.length (cellsI (mapK (scI b) l k)) ∧ Below w.heap.size w wr)
    case atStart => exact ⟨0, by simp [Hid], rfl, fun j h => absurd h (by omega), by rw [mapK_zero]; exact ho2, hb12⟩
    case round =>
      obtain ⟨k, HK, rfl, HP, hown, hb⟩ := hrel
      rcases gk with _ | gi
      · obtain rfl : k = l.length := HK.out
        obtain ⟨e1, e2⟩ := HA.out HP.out
        have E1 := Lib.hid e1
        have E2 := Lib.hid e2
        rw [mapK_end] at hown
        clear e1 e2
        go_wp2_with (fail)
        go_ret2
        exact ⟨A2, c2, by rw [E1.out, E2.out, List.length_map]; rfl, by rw [E2.out, List.length_map]; exact hown, hb⟩
      · have hkl : k < l.length := by have := HK.out; omega
        have hkl' : (k : Int) < (l.length : Int) := by omega
        obtain ⟨b1, o1, rfl, _, d0, d1, d2⟩ := (hr.later hb).itm hkl
        obtain ⟨u1, u8, _⟩ := itB_iff.1 (HOK.out k hkl)
        have hbx := bl_alloc (Below.refl wr.heap.size wr) (.cells #[.int .i64 (l.getD k it0).u, .int .i64 (l.getD k it0).n, .int .i64 (l.getD k it0).d] 50)
        have hba := bl_alloc hb (.cells #[.int .i64 (l.getD k it0).u, .int .i64 (l.getD k it0).n, .int .i64 (l.getD k it0).d] 50)
        obtain ⟨y0, y1, y2, _, _, _⟩ := (Bx.new wr 50 #[.int .i64 (l.getD k it0).u, .int .i64 (l.getD k it0).n, .int .i64 (l.getD k it0).d]).three
        obtain ⟨g, rfl, hbg, hgl, c4, c5, hput⟩ := own_putU (own_call hown hbx) (mapK_len _ _ _) hkl
        have hput2 := hput ((l.getD k it0).u * b)
        have hS := mapK_set (f := scI b) hkl
        rw [mapK_get hkl] at hput2
        have hS2 : (mapK (scI b) l k).set k ⟨(l.getD k it0).u * b, (l.getD k it0).n, (l.getD k it0).d⟩ = mapK (scI b) l (k + 1) := hS
        rw [hS2] at hput2
        have HPut := Lib.hid hput2
        have hbs := Lib.hid (fun v => bl_set hba (g := g) (i := k * 3) hbg v)
        have HNk := Lib.hid (HN.out k hkl)
        have HG : Hid (scB b (l.getD k it0).u = true → ∀ j, j < k + 1 → scB b (l.getD j it0).u = true) := fun h j hj => by
          rcases Nat.lt_or_ge j k with x | x
          · exact HP.out j x
          · obtain rfl : j = k := by omega
            exact h
        rw [mapK_get hkl] at c5
        clear hput hput2 hS hS2 hown hbx
        have q0 : ((l.getD k it0).u == 0) = false := by rw [beq_eq_false_iff_ne]; omega
        generalize (l.getD k it0).u = u at *
        generalize (l.getD k it0).n = n at *
        generalize (l.getD k it0).d = d at *
        have hdiv : b ≤ 8 / u ↔ b * u ≤ 8 := Int.le_ediv_iff_mul_le (by omega)
        have hcm : u * b = b * u := Int.mul_comm _ _
        by_cases h1 : b < 1
        · have hz : scB b u = false := by unfold scB; rw [decide_eq_false]; omega
          obtain ⟨e1, e2⟩ := HNk.out hz
          have E1 := Lib.hid e1
          have E2 := Lib.hid e2
          clear hz e1 e2 hdiv hcm
          go_wp2_with (fail)
          go_ret2
          exact ⟨none, 0, by rw [E1.out, E2.out]; rfl, by rw [E2.out]; exact World.ownsRow_nil _ _ _ _, hba⟩
        · by_cases h2 : b ≤ 8 / u
          · have h2' : ¬ 8 / u < b := by omega
            have hz : scB b u = true := by unfold scB; rw [decide_eq_true_eq]; have := hdiv.1 h2; omega
            have HX := Lib.hid (HG.out hz)
            have hw : wrap64 (u * b) = u * b := by have := hdiv.1 h2; have h0 : 0 ≤ u * b := Int.mul_nonneg (by omega) (by omega); exact IntWalk.wrap64_in _ ⟨by omega, by omega⟩
            clear hz hdiv hcm h2
            go_wp2_with (fail)
            go_roundg gi
            case rel => exact ⟨k + 1, by have := HK.out; show _ = _; omega, by go_num, HX.out, HPut.out, hbs.out _⟩
            case measure => omega
          · have h2' : 8 / u < b := by omega
            have hz : scB b u = false := by unfold scB; rw [decide_eq_false]; intro h; exact h2 (hdiv.2 (by omega))
            obtain ⟨e1, e2⟩ := HNk.out hz
            have E1 := Lib.hid e1
            have E2 := Lib.hid e2
            clear hz e1 e2 hdiv hcm h2
            go_wp2_with (fail)
            go_ret2
            exact ⟨none, 0, by rw [E1.out, E2.out]; rfl, by rw [E2.out]; exact World.ownsRow_nil _ _ _ _, hba⟩
theorem mapT_succ {f : It → It} {l : List It} {k : Nat} (hk : k < l.length) : (l.take (k + 1)).map f = (l.take k).map f ++ [f (l.getD k it0)] := by
  have he : l.getD k it0 = l[k] := by simp [hk]
  rw [he, List.take_succ_eq_append_getElem hk, List.map_append]; rfl
set_option maxRecDepth 100000 in
set_option maxHeartbeats 4000000 in
theorem rScale_c (A : Option Addr) (l : List It) (cap : Nat) (b : Int) (w : World) (hlen : l.length ≤ 1000) (hr : Rd w A (cellsI l)) :
    Calls Try.prog 57 #[.slice A l.length cap, .int .i64 b] w (OutIt (scL b l) (scE b l) w) := by
  have HV := Lib.hid (rValidate_c A l cap w hlen hr)
  by_cases hv : valE l = 0
  rotate_left
  · obtain ⟨h1, h2⟩ := sc_bad (b := b) hv
    have hv' : (valE l == 0) = false := by rw [beq_eq_false_iff_ne]; exact hv
    rw [h1, h2]
    clear h1 h2
    generalize valE l = z at *
    go_enter Try.func57, Try.ntmps57
    go_wp2_with (fail)
    refine HV.out.mono ?_
    rintro e w1 ⟨rfl, hb1⟩
    go_wp2_with (fail)
    go_ret2
    exact ⟨none, 0, rfl, World.ownsRow_nil _ _ _ _, hb1⟩
  · have HOK := Lib.hid (valE_ok hv).2
    have HA := Lib.hid (sc_all (b := b) hv)
    have HN := Lib.hid (fun k (hk : k < l.length) => @sc_not b l hv k hk)
    have HW := fun w => Lib.hid (within_c b 1 8 w)
    have HML := Lib.hid (fun k (hk : k ≤ l.length) => show ((l.take k).map (scI b)).length = k by rw [List.length_map, List.length_take]; omega)
    have HMS := Lib.hid (fun k (hk : k < l.length) => @mapT_succ (scI b) l k hk)
    have hin : inB b 1 8 = (decide (1 ≤ b) && decide (b ≤ 8)) := rfl
    rw [hv] at HV
    clear hv
    generalize scE b l = E at *
    generalize scL b l = S at *
    go_enter Try.func57, Try.ntmps57
    go_wp2_with (fail)
    refine HV.out.mono ?_
    rintro e w1 ⟨rfl, hb1⟩
    go_wp2_with (fail)
    go_loopg [7, 8] l.length (fun gk ov iv wr => ∃ (k : Nat) (D : Option Addr) (d : Nat), Hid (k + gk = l.length) ∧ iv = .int .i64 (k : Int) ∧ ov = .slice D k d ∧ Hid (∀ j, j < k → scB b (l.getD j it0).u = true) ∧ wr.ownsRow w.heap.size 50 3 (.slice D k d) k (cellsI ((l.take k).map (scI b))) ∧ Below w.heap.size w wr)
    case atStart => exact ⟨0, none, 0, by simp [Hid], rfl, rfl, fun j h => absurd h (by omega), World.ownsRow_nil _ _ _ _, hb1⟩
    case round =>
      obtain ⟨k, D, d, HK, rfl, rfl, HP, hown, hb⟩ := hrel
      rcases gk with _ | gi
      · obtain rfl : k = l.length := HK.out
        obtain ⟨e1, e2⟩ := HA.out HP.out
        have E1 := Lib.hid e1
        have E2 := Lib.hid e2
        rw [List.take_length] at hown
        clear e1 e2
        go_wp2_with (fail)
        go_ret2
        exact ⟨D, d, by rw [E1.out, E2.out, List.length_map]; rfl, by rw [E2.out, List.length_map]; exact hown, hb⟩
      · have hkl : k < l.length := by have := HK.out; omega
        have hkl' : (k : Int) < (l.length : Int) := by omega
        obtain ⟨b1, o1, rfl, _, d0, d1, d2⟩ := (hr.later hb).itm hkl
        obtain ⟨u1, u8, _⟩ := itB_iff.1 (HOK.out k hkl)
        have HNk := Lib.hid (HN.out k hkl)
        have HG : Hid (scB b (l.getD k it0).u = true → ∀ j, j < k + 1 → scB b (l.getD j it0).u = true) := fun h j hj => by
          rcases Nat.lt_or_ge j k with x | x
          · exact HP.out j x
          · obtain rfl : j = k := by omega
            exact h
        have happ := append_items w.heap.size (wr.alloc (.cells (cellsI [scI b (l.getD k it0)]).toArray 50)).drew (.slice D k d) ((l.take k).map (scI b)) (some ⟨wr.heap.size, 0, none⟩) [scI b (l.getD k it0)] 1
          (by rw [HML.out k (by omega)]; exact (hown.alloc _).drew) (Bx.rd (Bx.new wr _ _).drew) (by rw [HML.out k (by omega)]; omega) (by simp) (by show w.heap.size ≤ (wr.alloc _).heap.size; rw [World.size_alloc]; exact Nat.le_succ_of_le hb.size)
        rw [HML.out k (by omega), ← HMS.out k hkl] at happ
        have hcell : (cellsI [scI b (l.getD k it0)]).toArray = #[.int .i64 ((l.getD k it0).u * b), .int .i64 (l.getD k it0).n, .int .i64 (l.getD k it0).d] := rfl
        rw [hcell] at happ
        simp only [List.length_singleton] at happ
        have HApp := Lib.hid happ
        clear happ hcell hown
        generalize (l.getD k it0).u = u at *
        generalize (l.getD k it0).n = n at *
        generalize (l.getD k it0).d = d' at *
        by_cases h1 : inB b 1 8 = true
        · rw [h1] at HW
          rw [hin, Bool.and_eq_true, decide_eq_true_eq, decide_eq_true_eq] at h1
          have hp := mul_in (a := u) (b := b) (A := 8) (B := 8) ⟨by omega, u8⟩ ⟨by omega, h1.2⟩
          have hw : wrap64 (u * b) = u * b := IntWalk.wrap64_in _ ⟨by omega, by omega⟩
          have hw2 := Lib.hid ((IntWalk.i64_left _).trans hw)
          by_cases h2 : 8 < u * b
          · have hz : scB b u = false := by unfold scB; rw [decide_eq_false]; omega
            obtain ⟨e1, e2⟩ := HNk.out hz
            have E1 := Lib.hid e1
            have E2 := Lib.hid e2
            clear hz e1 e2 hin h1
            go_wp2_with (fail)
            refine (HW _).out.mono ?_
            rintro e w3 ⟨rfl, rfl⟩
            go_wp2_with (fail)
            go_ret2
            exact ⟨none, 0, by rw [E1.out, E2.out]; rfl, by rw [E2.out]; exact World.ownsRow_nil _ _ _ _, hb⟩
          · have hz : scB b u = true := by unfold scB; rw [decide_eq_true_eq]; omega
            have HX := Lib.hid (HG.out hz)
            obtain ⟨A3, c3, W3, hE1, hown3, hb3⟩ := HApp.out
            have E1 := Lib.hid hE1
            have hb03 : Below w.heap.size w W3 := ((bl_alloc hb _).drew).trans hb3
            clear hz hin h1 hE1 HApp hb3
            go_wp2_with (fail)
            refine (HW _).out.mono ?_
            rintro e w3 ⟨rfl, rfl⟩
            go_wp2_with (fail)
            go_region_law (refine step_append_run rfl (.tmp 33) (.tmp 47) 22 rfl (.slice D k d) (.slice (some ⟨wr.heap.size, 0, none⟩) 1 1) (.slice A3 (k + 1) c3) W3 (by first | rfl | simp [Act.eval, Act.put]) (by first | rfl | simp [Act.eval, Act.put]) (by first | exact E1.out | (rw [hw2.out]; exact E1.out)) ?_)
            all_goals
              go_wp2_with (fail)
              go_roundg gi
              case rel => exact ⟨k + 1, A3, c3, by have := HK.out; show _ = _; omega, by go_num, rfl, HX.out, hown3, hb03⟩
              case measure => omega
        · have h1f : inB b 1 8 = false := by simpa using h1
          have hz : scB b u = false := by
            unfold scB
            rw [decide_eq_false]
            rintro ⟨h2, h3⟩
            refine h1 ?_
            rw [hin, Bool.and_eq_true, decide_eq_true_eq, decide_eq_true_eq]
            have := Int.mul_le_mul_of_nonneg_right u1 (show 0 ≤ b by omega)
            omega
          rw [h1f] at HW
          obtain ⟨e1, e2⟩ := HNk.out hz
          have E1 := Lib.hid e1
          have E2 := Lib.hid e2
          clear hz e1 e2 hin h1 h1f
          go_wp2_with (fail)
          refine (HW _).out.mono ?_
          rintro e w3 ⟨rfl, rfl⟩
          go_wp2_with (fail)
          go_ret2
          exact ⟨none, 0, by rw [E1.out, E2.out]; rfl, by rw [E2.out]; exact World.ownsRow_nil _ _ _ _, hb⟩
end Go.Proofs.Ytgbjglkiaoplmaa
