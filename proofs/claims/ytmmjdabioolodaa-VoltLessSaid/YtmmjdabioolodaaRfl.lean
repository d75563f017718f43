/- The field, all voltages, and those that make a wish: the specification's contracts. -/
import Derived.Test.YtmmjdabioolodaaRval
import Derived.Test.YtmmjdabioolodaaFld
namespace Go.Proofs.Ytmmjdabioolodaa
open Go.RowKit

def fieldTo (g : List (List Int)) (v : List Int) (k : Nat) : List Int := (List.range k).map (fAt g v)
@[simp] theorem fieldTo_len (g : List (List Int)) (v : List Int) (k : Nat) : (fieldTo g v k).length = k := by simp [fieldTo]
theorem fieldTo_succ (g : List (List Int)) (v : List Int) (k : Nat) : fieldTo g v (k + 1) = fieldTo g v k ++ [fAt g v k] := by simp [fieldTo, List.range_succ]
set_option maxRecDepth 100000 in
set_option maxHeartbeats 4000000 in
theorem rfield_c (A B : Option Addr) (R : Rows) (g : List (List Int)) (v : List Int) (cap cap' : Nat) (w : World) (hg : OkG g) (hv : OkV v (wires g) 3) (hr : RT w A R g) (hs : Rd w B (ints v)) :
    Calls Try.prog 58 #[.slice A g.length cap, .slice B v.length cap'] w fun e w' => ∃ A' c', e = .returned (.slice A' g.length c') ∧ w'.ownsRow w.heap.size 3 1 (.slice A' g.length c') g.length (ints (fieldL g v)) ∧ Below w.heap.size w w' := by
  have hp := hg.pts
  have hw := hg.wrs
  have hvl := hv.len
  have HA : Hid (fieldTo g v g.length = fieldL g v) := rfl
  obtain ⟨b2, o2, rfl, _, HB⟩ := hs.num (by omega)
  replace HB := Lib.hid HB
  have HVL := Lib.hid hvl
  have hv3 : v.length ≤ 3 := by omega
  obtain ⟨b, o, rfl, _, HG⟩ := hr.all_ (by omega)
  replace HG := Lib.hid HG
  have HS := Lib.hid (fieldTo_succ g v)
  have HF0 : Hid (fieldTo g v 0 = []) := rfl
  have HFA : Hid (∀ k, fAt g v k = dotTo (g.getD k []) v (wires g)) := fun k => rfl
  clear hvl
  go_enter Try.func58, Try.ntmps58
  go_wp2_with (fail)
  go_loopg [5, 6] g.length (fun gk ov iv wr => ∃ (k : Nat) (A' : Option Addr) (c' : Nat), Hid (k + gk = g.length) ∧ iv = .int .i64 (k : Int) ∧ ov = .slice A' k c' ∧ wr.ownsRow w.heap.size 3 1 (.slice A' k c') (fieldTo g v k).length (ints (fieldTo g v k)) ∧ Below w.heap.size w wr)
  case atStart => exact ⟨0, none, 0, by simp [Hid], rfl, rfl, by rw [HF0.out]; exact World.ownsRow_nil _ _ _ _, Below.refl _ _⟩
  case round =>
    obtain ⟨k, A', c', HK, rfl, rfl, hown, hb⟩ := hrel
    rcases gk with _ | gi
    · obtain rfl : k = g.length := HK.out
      go_wp2_with (fail)
      go_ret
      refine ⟨A', c', rfl, ?_, hb⟩
      rw [← HA.out]
      have := hown
      rw [fieldTo_len] at this
      exact this
    · have hkN : k < g.length := by have := HK.out; omega
      have hkN' : (k : Int) < (g.length : Int) := by omega
      have hrow := hg.row k hkN
      have hrl := hrow.len
      obtain ⟨b1, o1, hR1, _, HC1⟩ := (hr.row k hkN).num (by omega)
      replace HC1 := Lib.hid HC1
      have hcg := fun w1 (h : Below w.heap.size w w1) => HG.out w1 h k hkN
      simp only [hrl, ← HVL.out, hR1] at hcg
      have HCG := Lib.hid hcg
      have HRL := Lib.hid (hrl.trans HVL.out.symm)
      have HD := Lib.hid (fun j => (dot_bound hrow hv j))
      have HPB := Lib.hid (fun j => (prod_bound hrow hv j))
      have HFK := Lib.hid (HFA.out k)
      rw [← hrl] at HFK
      have HFK2 : Hid (fAt g v k = dotTo (g.getD k []) v v.length) := by show _ = _; rw [HFK.out, HRL.out]
      have HSK := Lib.hid (HS.out k)
      have HL := Lib.hid (fieldTo_len g v k)
      have HDS : Hid (∀ j, dotTo (g.getD k []) v (j + 1) = dotTo (g.getD k []) v j + (g.getD k []).getD j 0 * v.getD j 0) := fun j => rfl
      have HD0 : Hid (dotTo (g.getD k []) v 0 = 0) := rfl
      clear hrow hrl hR1 hcg HFK
      generalize fieldTo g v k = L at *
      generalize fAt g v k = fk at *
      go_wp2_with (fail)
      go_loopg [7, 8] v.length (fun gk nv jv wq => ∃ j : Nat, Hid (j + gk = v.length) ∧ jv = .int .i64 (j : Int) ∧ nv = .int .i64 (dotTo (g.getD k []) v j) ∧ wq.ownsRow w.heap.size 3 1 (.slice A' k c') L.length (ints L) ∧ Below w.heap.size w wq)
      case atStart => exact ⟨0, by simp [Hid], rfl, by rw [HD0.out], hown, hb⟩
      case round =>
        clear hown hb
        obtain ⟨j, HJ, rfl, rfl, hown, hb⟩ := hrel
        rcases gk with _ | gj
        · obtain rfl : j = v.length := HJ.out
          rw [← HFK2.out]
          have hown2 := hown
          obtain ⟨A2, c2, w2, hrun, hown3, hb3, _⟩ := append_int w.heap.size wr (.slice A' k c') L fk hown (by rw [HL.out]; omega) hb.size
          rw [HL.out] at hrun hown3
          have E1 := Lib.hid hrun
          clear hrun hown2
          go_wp2_with (at_builtin; refine wpList_append_eq rfl _ _ 23 rfl _ _ _ w2 rfl rfl E1.out ?_)
          go_roundg gi
          case rel => exact ⟨k + 1, A2, c2, by have := HK.out; show _ = _; omega, by go_num, rfl, by rw [HSK.out]; exact hown3, hb.trans hb3⟩
          case measure => omega
        · have hjN : j < v.length := by have := HJ.out; omega
          have hjN' : (j : Int) < (v.length : Int) := by omega
          have c0 := HCG.out wr hb
          have c1 := HC1.out wr hb j (by rw [HRL.out]; exact hjN)
          have c2 := HB.out wr hb j hjN
          have q1 := HPB.out j
          have q2 := HD.out j
          have q3 : wrap64 ((g.getD k []).getD j 0 * v.getD j 0) = (g.getD k []).getD j 0 * v.getD j 0 := IntWalk.wrap64_in _ ⟨by omega, by omega⟩
          have q4 : wrap64 (dotTo (g.getD k []) v j + (g.getD k []).getD j 0 * v.getD j 0) = dotTo (g.getD k []) v j + (g.getD k []).getD j 0 * v.getD j 0 := IntWalk.wrap64_in _ ⟨by omega, by omega⟩
          have HDJ := Lib.hid (HDS.out j)
          clear q1 q2
          generalize dotTo (g.getD k []) v j = D0 at *
          generalize (g.getD k []).getD j 0 = x at *
          generalize v.getD j 0 = y at *
          go_wp2_with (fail)
          go_quiet (fail)
          go_wp2_with (fail)
          go_roundg gj
          case rel => exact ⟨j + 1, by have := HJ.out; show _ = _; omega, by go_num, by rw [HDJ.out]; exact congrArg _ q4, own_call hown (below_drewN (Below.refl _ _) _), below_drewN hb _⟩
          case measure => omega
theorem cell_new1 (w : World) (v : Value) (T : TypeId) : ∀ j u, [v][j]? = some u → (w.alloc (.cells #[v] T)).cell? ((⟨w.heap.size, 0, none⟩ : Addr).add j) = some u := by
  intro j u hj
  have hadd : (⟨w.heap.size, 0, none⟩ : Addr).add j = ⟨w.heap.size, j, none⟩ := by unfold Addr.add; split <;> simp_all
  rw [hadd]
  match j, hj with
  | 0, hj => simp at hj; subst hj; simp
/-- A new row: the numbers of a list, and one behind. -/
theorem row_snoc (w : World) (A : Option Addr) (x : List Int) (c : Nat) (y : Int) (hl : x.length ≤ 1000) (hr : Rd w A (ints x)) :
    ∃ A1 c1 w1, (∀ ty, (Builtin.append_ #[23, 23] ty #[.slice (some ⟨w.heap.size, 0, none⟩) 0 0, .slice A x.length c]).run Try.prog (w.alloc (.cells #[] 3)) = .ok (.slice A1 x.length c1) w1) ∧
      ∃ A2 c2 w2, (∀ ty, (Builtin.append_ #[23, 23] ty #[.slice A1 x.length c1, .slice (some ⟨w1.heap.size, 0, none⟩) 1 1]).run Try.prog (w1.alloc (.cells #[.int .i64 y] 3)) = .ok (.slice A2 (x.length + 1) c2) w2) ∧
        w2.ownsRow w.heap.size 3 1 (.slice A2 (x.length + 1) c2) (x ++ [y]).length (ints (x ++ [y])) ∧ Below w.heap.size w w2 := by
  obtain ⟨i0, hi, hz0, hz1, hz2⟩ := info_parts int_info
  have hown := World.ownsRow_made (e := 3) (size := 1) w #[] 0 (Nat.le_refl _) (by decide) rfl
  have hb0 : Below w.heap.size w (w.alloc (.cells #[] 3)) := bl_alloc (Below.refl _ _) _
  obtain ⟨A1, c1, w1, h1, h2, h3⟩ := run_append_rows (P := Try.prog) (w.alloc (.cells #[] 3)) w.heap.size 23 3 i0 _ 1 8 Try.underlying23 hi hz0 hz1 hz2 rfl (by decide) _ 0 [] hown A x.length c (ints x) (by simp) (ints_one _) (hr.later hb0) (by unfold maxLen; omega) (by omega) hb0.size
  have hb1 : Below w.heap.size w w1 := hb0.trans (grown_below hown h3 hb0.size)
  simp only [Nat.zero_add, List.nil_append] at h1 h2
  refine ⟨A1, c1, w1, h1, ?_⟩
  obtain ⟨A2, c2, w2, k1, k2, k3, _⟩ := append_int w.heap.size w1 (.slice A1 x.length c1) x y h2 (by omega) hb1.size
  exact ⟨A2, c2, w2, k1, k2, hb1.trans k3⟩
set_option maxRecDepth 100000 in
set_option maxHeartbeats 4000000 in
theorem every_c (A : Option Addr) (R : Rows) (g : List (List Int)) (cap : Nat) (w : World) (hg : OkG g) (hr : RT w A R g) :
    Calls Try.prog 71 #[.slice A g.length cap] w fun e w' => ∃ A' c hs, e = .returned (.slice A' (voltsL (wires g)).length c) ∧ w'.ownsRow w.heap.size 23 1 (.slice A' (voltsL (wires g)).length c) (voltsL (wires g)).length hs ∧ Tab w' w.heap.size hs (voltsL (wires g)) ∧ Below w.heap.size w w' := by
  have hp := hg.pts
  have hw := hg.wrs
  obtain ⟨b, o, rfl, _, HG⟩ := hr.all_ (by omega)
  have HGC : Hid (∀ w1, Below w.heap.size w w1 → w1.cell? ⟨b, o, none⟩ = some (.slice (R 0).1 (wires g) (R 0).2)) := fun w1 h => by have := HG w1 h 0 (by omega); rwa [Nat.add_zero] at this
  have hpp : (0 : Int) < (g.length : Int) := by omega
  clear HG hr
  generalize wires g = n at *
  generalize g.length = gl at *
  have hn := hw.2
  clear hw hg hp
  have hone := own_one (e := 23) (v := .slice none 0 0) (Nat.le_refl w.heap.size)
  have htab : Tab (w.alloc (.cells #[.slice none 0 0] 23)) w.heap.size [.slice none 0 0] (voltsL 0) := ⟨rfl, fun k hk => by
    have hk0 : k = 0 := by simp at hk; exact hk
    subst hk0
    exact ⟨none, 0, rfl, World.ownsRow_nil _ _ _ _⟩⟩
  go_enter Try.func71, Try.ntmps71
  go_wp2_with (fail)
  go_loopw [3, 4, 5, 6, 7] (fun ov iv _ _ _ wr => ∃ (i : Nat) (A : Option Addr) (c : Nat) (hs : List Value), i ≤ n ∧ iv = .int .i64 i ∧ ov = .slice A (voltsL i).length c ∧ wr.ownsRow w.heap.size 23 1 (.slice A (voltsL i).length c) (voltsL i).length hs ∧ Tab wr w.heap.size hs (voltsL i) ∧ Below w.heap.size w wr) (fun _ iv _ _ _ _ => n - (intOf iv).toNat)
  case atStart => exact ⟨0, _, _, _, Nat.zero_le _, rfl, rfl, hone, htab, bl_alloc (Below.refl _ _) _⟩
  case round =>
    obtain ⟨i, Ao, co, ho, hin, rfl, rfl, hown, htb, hb⟩ := hrel
    clear hone htab
    have hcg := HGC.out wr hb
    by_cases hlt : i < n
    · have hpow := pow_le (show i ≤ 3 by omega)
      have hN := voltsL_len i
      obtain ⟨N, hNe⟩ : ∃ N, N = 7 ^ i := ⟨_, rfl⟩
      rw [← hNe] at hpow hN
      rw [hN] at hown
      have htb1 := htb
      have HP : Hid (∀ k, k < N → (voltsL i).getD k [] = vAt i k) := fun k hk => voltsTo_get (by rw [← hNe]; exact hk)
      have HN : Hid (N = 7 ^ i) := hNe
      clear hNe
      have hwb := hb.size
      have hlt' : (i : Int) < (n : Int) := by omega
      go_wp2_with (fail)
      rw [hN]
      obtain ⟨wo, rfl⟩ : ∃ wo : World, wo = wr := ⟨_, rfl⟩
      go_loopw [5, 6, 7] (fun nv kv _ wr => ∃ (k : Nat) (hs : List Value), k ≤ N ∧ kv = .int .i64 k ∧ wr.ownsRow wo.heap.size 23 1 nv (k * 7) hs ∧ Tab wr wo.heap.size hs (voltsTo (i + 1) (k * 7)) ∧ Below wo.heap.size wo wr) (fun _ kv _ _ => N - (intOf kv).toNat)
      case atStart => exact ⟨0, [], Nat.zero_le _, rfl, by rw [Nat.zero_mul]; exact World.ownsRow_nil _ _ _ _, by rw [Nat.zero_mul]; exact Tab.nil _ _, Below.refl _ _⟩
      case round =>
        clear hcg
        obtain ⟨k, hs, hkN, rfl, hown2, htb2, hb2⟩ := hrel
        by_cases hlt2 : k < N
        · have hq2 : (k + 1) * 7 = k * 7 + 7 := by omega
          obtain ⟨Q, hQ⟩ : ∃ Q, Q = k * 7 := ⟨_, rfl⟩
          have hQb : Q + 7 ≤ 2401 := by omega
          rw [← hQ] at hown2 htb2 hq2
          have HQ := Lib.hid hQ
          have HQ2 := Lib.hid hq2
          clear hQ hq2
          obtain ⟨Ak, ck, hk1, hk2⟩ := htb1.2 k (by rw [hN]; exact hlt2)
          rw [HP.out k hlt2] at hk1 hk2
          have hxl := vAt_len i k
          have HX : Hid (∀ j, j < 7 → vAt (i + 1) (Q + j) = vAt i k ++ [(-3 : Int) + (j : Int)]) := fun j hj => by rw [HQ.out]; exact vAt_row i k j hj
          generalize vAt i k = x at hk1 hk2 hxl HX
          have hx6 : x.length ≤ 6 := by omega
          clear hxl
          have hrk := (own_rd hk2).1
          have hro := (own_rd hown).1
          have hlen : ho.length = N := by have := hown.1; omega
          obtain ⟨b', o', rfl, hbl, hc⟩ := hro.at_ (k := k) (by rw [hlen]; exact hlt2)
          have hck := hc k _ hk1
          have hlt2' : (k : Int) < (N : Int) := by omega
          clear hk1 hk2 hc hlen
          go_wp2_with (fail)
          obtain ⟨wk, rfl⟩ : ∃ wk : World, wk = wr := ⟨_, rfl⟩
          go_loopw [5, 7] (fun nv fv wr => ∃ (j : Nat) (hs : List Value), j ≤ 7 ∧ fv = .int .i64 ((-3 : Int) + (j : Int)) ∧ wr.ownsRow wo.heap.size 23 1 nv (Q + j) hs ∧ Tab wr wo.heap.size hs (voltsTo (i + 1) (Q + j)) ∧ Below wo.heap.size wo wr) (fun _ fv _ => ((4 : Int) - intOf fv).toNat)
          case atStart => exact ⟨0, hs, Nat.zero_le _, by simp, hown2, htb2, hb2⟩
          case round =>
            obtain ⟨j, hs3, hj3, rfl, hown3, htb3, hb3⟩ := hrel
            clear hown2 htb2 hb2
            by_cases hlt3 : j < 7
            · have hjf : (-3 : Int) + (j : Int) ≤ 3 := by omega
              have hck3 := (hb3.cell (p := ⟨b', o' + k, none⟩) hbl).trans hck
              have hrk3 : Rd wr Ak (ints x) := hrk.later hb3
              have HS := Lib.hid (voltsTo_succ (i + 1) (Q + j))
              have HXj := Lib.hid (HX.out j hlt3)
              have hwb3 := hb3.size
              have hbl3 : b' < wr.heap.size := by omega
              have hlh : hs3.length = Q + j := by have := hown3.1; simpa using this
              generalize voltsTo (i + 1) (Q + j) = L at htb3 HS
              obtain ⟨A1, c1, w1, hrun1, A2, c2, w2, hrun2, hown2, hb2⟩ := row_snoc wr Ak x ck ((-3 : Int) + (j : Int)) (by omega) hrk3
              have E1 := Lib.hid hrun1
              have E2 := Lib.hid hrun2
              clear hrun1 hrun2
              have hs2 := hb2.size
              obtain ⟨A3, c3, w3, hrun3, hown5, hb35, hg3⟩ := append_slice wo.heap.size w2 _ (Q + j) hs3 (.slice A2 (x.length + 1) c2) rfl (own_call hown3 hb2) (by omega) (by omega)
              have E3 := Lib.hid hrun3
              clear hrun3
              have hrow : Hid (w2.ownsRow wo.heap.size 3 1 (.slice A2 (x ++ [(-3 : Int) + (j : Int)]).length c2) (x ++ [(-3 : Int) + (j : Int)]).length (ints (x ++ [(-3 : Int) + (j : Int)]))) := by
                show World.ownsRow _ _ _ _ _ _ _
                have := own_base hown2 hwb3
                rw [List.length_append] at this ⊢
                exact this
              have hl1 : Hid ((x ++ [(-3 : Int) + (j : Int)]).length = x.length + 1) := by show _ = _; simp
              have htb6 : Hid (Tab w3 wo.heap.size (hs3 ++ [.slice A2 (x.length + 1) c2]) (voltsTo (i + 1) (Q + (j + 1)))) := by
                show Tab _ _ _ _
                rw [show Q + (j + 1) = Q + j + 1 by omega, HS.out, HXj.out, ← hl1.out]
                exact (Tab.call (Tab.snoc (htb3.call hb2) hrow.out) (bl_alloc (Below.refl _ _) _)).grown ((own_call hown3 hb2).alloc _) (by decide) hg3
              have hb6 : Below wo.heap.size wo w3 := (hb3.trans (hb2.mono hwb3)).trans hb35
              have hown6 : Hid (w3.ownsRow wo.heap.size 23 1 (.slice A3 (Q + j + 1) c3) (Q + (j + 1)) (hs3 ++ [.slice A2 (x.length + 1) c2])) := hown5
              clear hown5 hg3 hrow htb3 hown3 hb35 hown2 hrk3
              go_wp2_with (at_builtin; first
                | refine wpList_append_eq rfl _ _ 23 rfl _ _ _ w1 rfl rfl E1.out ?_
                | refine wpList_append_eq rfl _ _ 23 rfl _ _ _ w2 rfl rfl E2.out ?_
                | refine wpList_append_eq rfl _ _ 22 rfl _ _ _ w3 rfl rfl E3.out ?_)
              go_roundw
              case rel => exact ⟨j + 1, _, by omega, by push_cast; go_num, hown6.out, htb6.out, hb6⟩
              case measure => simp [intOf]; omega
            · obtain rfl : j = 7 := by omega
              have hnf : ¬ ((-3 : Int) + ((7 : Nat) : Int) ≤ 3) := by omega
              go_wp2_with (fail)
              go_roundw
              case rel => exact ⟨k + 1, hs3, by omega, by go_num, by rw [HQ2.out]; exact hown3, by rw [HQ2.out]; exact htb3, hb3⟩
              case measure => simp [intOf]; omega
        · obtain rfl : k = N := by omega
          obtain ⟨A', c', rfl⟩ := own_form hown2
          have HA := Lib.hid (volts_all i)
          have hb4 := hb.trans (hb2.mono hwb)
          have hlN : Hid ((voltsL (i + 1)).length = k * 7) := by show _ = _; rw [voltsL_len, Nat.pow_succ, HN.out]
          have htb5 : Hid (Tab wr w.heap.size hs (voltsL (i + 1))) := by
            show Tab _ _ _ _
            rw [HN.out, HA.out] at htb2
            exact htb2.lower hwb
          have hown5 : Hid (wr.ownsRow w.heap.size 23 1 (.slice A' (voltsL (i + 1)).length c') (voltsL (i + 1)).length hs) := by
            show World.ownsRow _ _ _ _ _ _ _
            rw [hlN.out]; exact own_base hown2 hwb
          clear hown2 htb2 htb htb1 hown
          go_wp2_with (fail)
          go_roundw
          case rel => exact ⟨i + 1, A', c', hs, by omega, by go_num, by rw [hlN.out], hown5.out, htb5.out, hb4⟩
          case measure => simp [intOf]; omega
    · obtain rfl : i = n := by omega
      have hlt' : ¬ (i : Int) < (i : Int) := by omega
      go_wp2_with (fail)
      go_ret
      exact ⟨Ao, co, rfl, ho, by simpa using hown, htb, hb⟩
end Go.Proofs.Ytmmjdabioolodaa
