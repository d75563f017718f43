/- Readings turned round, at other times, of the opposite value: package drift's. -/
import Derived.Test.YtbbhaongakmhpaaRvs
import Derived.Test.YtbbhaongakmhpaaWit
namespace Go.Proofs.Ytbbhaongakmhpaa
open Go.RowKit

/-- f at the first k. -/
def mp (f : T3 → T3) (L : List T3) (k : Nat) : List T3 := (L.take k).map f ++ L.drop k
theorem mp_len {f : T3 → T3} {L : List T3} {k : Nat} (hk : k ≤ L.length) : (mp f L k).length = L.length := by simp [mp]; omega
theorem mp_zero (f : T3 → T3) (L : List T3) : mp f L 0 = L := by simp [mp]
theorem mp_all (f : T3 → T3) (L : List T3) : mp f L L.length = L.map f := by simp [mp]
theorem mp_get {f : T3 → T3} {L : List T3} {k : Nat} (hk : k < L.length) : (mp f L k).getD k t0 = L.getD k t0 := by
  have h1 : ((L.take k).map f).length = k := by simp; omega
  unfold mp
  simp only [List.getD_eq_getElem?_getD]
  rw [List.getElem?_append_right (by omega), h1, Nat.sub_self, List.getElem?_drop, Nat.add_zero]
theorem mp_set {f : T3 → T3} {L : List T3} {k : Nat} (hk : k < L.length) : (mp f L k).set k (f (L.getD k t0)) = mp f L (k + 1) := by
  have h1 : ((L.take k).map f).length = k := by simp; omega
  have e : L.getD k t0 = L[k] := by simp [hk]
  unfold mp
  rw [List.set_append_right _ _ (by omega), h1, Nat.sub_self, List.drop_eq_getElem_cons hk, List.set_cons_zero, List.take_succ_eq_append_getElem hk, List.map_append, List.append_assoc, e]
  rfl
def trnL (l : List T3) : List T3 := if validE l = 0 then turnL l else []
def oppG (l : List T3) : List T3 := if validE l = 0 then oppL l else []
def shfE (l : List T3) (b : Int) : Int := if validE l = 0 then (if inB b (-(tm l 0)) (1000 - tm l (l.length - 1)) = true then 0 else 1) else validE l
def shfL (l : List T3) (b : Int) : List T3 := if shfE l b = 0 then shiftL l b else []
set_option maxRecDepth 100000 in
set_option maxHeartbeats 4000000 in
theorem Turn_c (A : Option Addr) (l : List T3) (c : Nat) (w : World) (hlen : l.length ≤ 1000) (hr : Rd w A (cellsT l)) :
    Calls Try.prog 46 #[.slice A l.length c] w (OutR (trnL l) (validE l) w) := by
  have HV := Lib.hid (validate_c A l c w hlen hr)
  by_cases hv : validE l = 0
  · have ho := validE_ok.1 hv
    have HG : trnL l = l.reverse.map fun a => (1000 - a.1, a.2.1, a.2.2) := by rw [trnL, if_pos hv]; rfl
    have HC := fun w1 h => Lib.hid (cloneR_c A l c w1 hlen h)
    have HR := fun A' c' w1 h => Lib.hid (reverseR_c w.heap.size A' l c' w1 hlen h)
    obtain ⟨L, hL⟩ : ∃ L, L = l.reverse := ⟨_, rfl⟩
    have hLl : L.length = l.length := by rw [hL]; simp
    have HT : Hid (∀ k, k < l.length → 0 ≤ (L.getD k t0).1 ∧ (L.getD k t0).1 ≤ 1000) := fun k hk => by
      have h2 : l.length - 1 - k < l.length := by omega
      have e : (L.getD k t0).1 = tm l (l.length - 1 - k) := by rw [hL]; simp [tm, hk, h2]
      rw [e]
      exact ⟨ho.t0 _ h2, ho.t1 _ h2⟩
    rw [← hL] at HG HR
    rw [HG, hv]
    rw [hv] at HV
    have HML : Hid ((L.map fun a : T3 => ((1000 - a.1, a.2.1, a.2.2) : T3)).length = l.length) := by show _ = _; rw [List.length_map, hLl]
    have HMA := Lib.hid (mp_all (fun a : T3 => ((1000 - a.1, a.2.1, a.2.2) : T3)) L)
    have HMG := Lib.hid (fun k h => @mp_get (fun a : T3 => ((1000 - a.1, a.2.1, a.2.2) : T3)) L k h)
    have HMS := Lib.hid (fun k h => @mp_set (fun a : T3 => ((1000 - a.1, a.2.1, a.2.2) : T3)) L k h)
    have HMN := Lib.hid (fun k h => @mp_len (fun a : T3 => ((1000 - a.1, a.2.1, a.2.2) : T3)) L k h)
    have HM0 := Lib.hid (mp_zero (fun a : T3 => ((1000 - a.1, a.2.1, a.2.2) : T3)) L)
    have HLL := Lib.hid hLl
    generalize (L.map fun a : T3 => ((1000 - a.1, a.2.1, a.2.2) : T3)) = R at *
    generalize hmp : mp (fun a : T3 => ((1000 - a.1, a.2.1, a.2.2) : T3)) L = mpf at *
    clear hmp HG hv ho hL hLl
    go_enter Try.func46, Try.ntmps46
    go_wp2_with (fail)
    refine HV.out.mono ?_
    rintro e w1 ⟨rfl, hb1⟩
    go_wp2_with (fail)
    refine (HC _ (hr.later hb1)).out.mono ?_
    rintro e w3 ⟨A3, c3, rfl, ho3, hb3⟩
    have hb13 := bl_call hb1 hb3
    have ho3' := own_base ho3 hb1.size
    go_wp2_with (fail)
    refine (HR A3 c3 w3 ho3').out.mono ?_
    rintro e w4 ⟨rfl, ho4, hb4⟩
    have hb14 := hb13.trans hb4
    rw [← HM0.out] at ho4
    go_wp2_with (fail)
    go_loopg [18] l.length (fun gk iv wr => ∃ k : Nat, Hid (k + gk = l.length) ∧ iv = .int .i64 (k : Int) ∧ wr.ownsRow w.heap.size 55 3 (.slice A3 l.length c3) l.length (cellsT (mpf k)) ∧ Below w.heap.size w wr)
    case atStart => exact ⟨0, by simp [Hid], rfl, ho4, hb14⟩
    case round =>
      obtain ⟨k, HK, rfl, hown, hb⟩ := hrel
      rcases gk with _ | gi
      · obtain rfl : k = l.length := HK.out
        have HE := HMA.out
        rw [HLL.out] at HE
        rw [HE] at hown
        go_wp2_with (fail)
        go_ret2
        exact ⟨A3, c3, by rw [HML.out]; rfl, by rw [HML.out]; exact hown, hb⟩
      · have hkl : k < l.length := by have := HK.out; omega
        have hkl' : (k : Int) < (l.length : Int) := by omega
        obtain ⟨q0, q1⟩ := HT.out k hkl
        have hml := HMN.out k (by rw [HLL.out]; omega)
        rw [HLL.out] at hml
        obtain ⟨g, rfl, hgb, hgl, ⟨c0, c1, c2⟩, f0, f1, f2⟩ := own_at3 hown hml hkl
        have ho5 := own_set0 (k := k) hown (1000 - (L.getD k t0).1)
        rw [HMG.out k (by rw [HLL.out]; exact hkl)] at c0 c1 c2 ho5
        rw [HMS.out k (by rw [HLL.out]; exact hkl)] at ho5
        have hb5 := bl_set hb hgb (i := k * 3) (.int .i64 (1000 - (L.getD k t0).1))
        clear c1 c2 f1 f2 hml hown
        generalize (L.getD k t0).1 = x at *
        have e0 : wrap64 (1000 - x) = 1000 - x := IntWalk.wrap64_in _ ⟨by omega, by omega⟩
        have e1 : IntKind.i64.wrap (1000 - x) = 1000 - x := IntWalk.i64_in _ ⟨by omega, by omega⟩
        have HO5 := Lib.hid ho5
        have HB5 := Lib.hid hb5
        clear ho5 hb5
        go_wp2_with (fail)
        go_roundg gi
        case rel => exact ⟨k + 1, by have := HK.out; show _ = _; omega, by go_num, HO5.out, HB5.out⟩
        case measure => omega
  · have HB : trnL l = [] := by rw [trnL, if_neg hv]
    have hv' : (validE l != 0) = true := by simpa using hv
    rw [HB]
    clear HB
    generalize validE l = ev at *
    go_enter Try.func46, Try.ntmps46
    go_wp2_with (fail)
    refine HV.out.mono ?_
    rintro e w1 ⟨rfl, hb1⟩
    go_wp2_with (fail)
    go_ret2
    exact ⟨none, 0, rfl, World.ownsRow_nil _ _ _ _, hb1⟩
end Go.Proofs.Ytbbhaongakmhpaa
