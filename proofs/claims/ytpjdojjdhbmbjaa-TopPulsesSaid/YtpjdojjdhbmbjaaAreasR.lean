/- All areas of closed pulses: the document's way. -/
import Derived.Test.YtpjdojjdhbmbjaaArSet
import Derived.Test.YtpjdojjdhbmbjaaSrch
import Derived.Deep.RegionWith
import Derived.IntWalk
namespace Go.Proofs.Ytpjdojjdhbmbjaa
open Go.RowKit

theorem bool_info : (Try.prog.info? 4).map (fun i => (i.zero, i.size, i.bytes)) = some (some (.bool false), 1, 1) := by kernel_rfl
/-- 2001 answers. -/
def bools (F : Nat → Bool) : Array Value := ((List.range 2001).map (fun i => Value.bool (F i))).toArray
theorem bools_get (F : Nat → Bool) {i : Nat} (h : i < 2001) : (bools F)[i]? = some (.bool (F i)) := by simp [bools, h]
theorem bools_set (F : Nat → Bool) (i : Nat) : (bools F).setIfInBounds i (.bool true) = bools (fun j => F j || (j == i)) := by
  apply Array.ext_getElem?
  intro j
  rw [Array.getElem?_setIfInBounds]
  by_cases hj : j < 2001
  · rw [bools_get _ hj, bools_get _ hj]
    by_cases hij : i = j
    · subst hij; simp [bools, hj]
    · rw [if_neg hij]; simp [show (j == i) = false by simp; omega]
  · have e : ∀ G, (bools G)[j]? = none := fun G => by simp [bools]; omega
    rw [e, e]
    by_cases hij : i = j
    · subst hij; simp [bools, hj]
    · rw [if_neg hij]
def anyAt (m : Int) (xs : List (List Int)) (j : Nat) : Bool := xs.any (fun x => areaR m x == (j : Int) - 1000)
theorem any_yes' {f : List Int → Bool} {p : List (List Int)} {k : Nat} (h : k < p.length) (hf : f (p.getD k []) = true) : (p.take (k + 1)).filter f = (p.take k).filter f ++ [p.getD k []] := by
  rw [List.take_succ_eq_append_getElem h, List.filter_append]
  simp [h] at hf
  simp [hf, h]
theorem any_no' {f : List Int → Bool} {p : List (List Int)} {k : Nat} (h : k < p.length) (hf : f (p.getD k []) = false) : (p.take (k + 1)).filter f = (p.take k).filter f := by
  rw [List.take_succ_eq_append_getElem h, List.filter_append]
  simp [h] at hf
  simp [hf]
def arTo (F : Nat → Bool) (k : Nat) : List Int := ((List.range k).filter F).map (fun (i : Nat) => (i : Int) - 1000)
theorem arTo_yes {F : Nat → Bool} {k : Nat} (h : F k = true) : arTo F (k + 1) = arTo F k ++ [(k : Int) - 1000] := by simp [arTo, List.range_succ, List.filter_append, h]
theorem arTo_no {F : Nat → Bool} {k : Nat} (h : F k = false) : arTo F (k + 1) = arTo F k := by simp [arTo, List.range_succ, List.filter_append, h]
theorem arTo_len (F : Nat → Bool) (k : Nat) : (arTo F k).length ≤ k := by
  unfold arTo; rw [List.length_map]; exact Nat.le_trans (List.length_filter_le _ _) (by simp)
theorem arTo_all {l : List Int} (hl : areModesL l = true) {f n : Nat} (hn : n ≤ 6) (hf : f ≤ 2) :
    arTo (anyAt (l.getD 0 0) ((pulsesL f n).filter (fun x => closedAllR x l))) 2001 = arSet l (closedL l f n) := by
  rw [arTo, arSet, closedL_R hl hn hf]
  refine congrArg (List.map _) (List.filter_congr fun i _ => ?_)
  unfold anyAt
  have hm : 0 ≤ l.getD 0 0 ∧ l.getD 0 0 ≤ 3 := by
    have h0 := areModes_len hl
    refine modes_in hl _ ?_
    simp only [List.getD_eq_getElem?_getD, List.getElem?_eq_getElem h0, Option.getD_some]
    exact List.getElem_mem h0
  have hx : ∀ x ∈ (pulsesL f n).filter (fun x => closedAllR x l), areaR (l.getD 0 0) x = arF l x := fun x hx => by
    rw [arF, area_same (ok_pulse (List.mem_filter.1 hx).1 hn hf hm)]
  rw [Bool.eq_iff_iff, List.any_eq_true, List.any_eq_true]
  exact ⟨fun ⟨x, h1, h2⟩ => ⟨x, h1, by rw [← hx x h1]; exact h2⟩, fun ⟨x, h1, h2⟩ => ⟨x, h1, by rw [hx x h1]; exact h2⟩⟩
theorem arR_small {l : List Int} (hl : areModesL l = true) {f n : Nat} (hn : n ≤ 6) (hf : f ≤ 2) {x : List Int} (h : x ∈ pulsesL f n) : -1000 ≤ areaR (l.getD 0 0) x ∧ areaR (l.getD 0 0) x ≤ 1000 := by
  have hm : 0 ≤ l.getD 0 0 ∧ l.getD 0 0 ≤ 3 := by
    have h0 := areModes_len hl
    refine modes_in hl _ ?_
    simp only [List.getD_eq_getElem?_getD, List.getElem?_eq_getElem h0, Option.getD_some]
    exact List.getElem_mem h0
  have := ar_small (l := l) hn hf h
  rwa [arF, area_same (ok_pulse h hn hf hm)] at this

theorem make_bools (w : World) : (Instr.makeSlice 78 (.int .i64 2001) (.int .i64 2001)).run Try.prog w = .ok (.slice (some ⟨w.heap.size, 0, none⟩) 2001 2001) (w.alloc (.cells (bools (fun _ => false)) 4)) := by
  obtain ⟨i0, hi, hz0, hz1, hz2⟩ := info_parts bool_info
  have h := run_make (P := Try.prog) w 78 4 i0 _ Try.underlying78 hi hz0 .i64 .i64 2001 2001 (by omega) (by omega) (by rw [hz2]; omega) (by omega)
  rw [show (2001 : Int).toNat = 2001 from rfl, hz1, Nat.mul_one] at h
  have e : madeCells (Value.bool false).cells 2001 = bools (fun _ => false) := by
    apply Array.ext
    · simp [size_madeCells, bools]
    · intro i h1 h2
      simp [madeCells, bools, Value.cells]
      rw [Nat.mod_one]; rfl
  rw [e] at h
  exact h

set_option maxRecDepth 100000 in
set_option maxHeartbeats 4000000 in
theorem rareas_c (B : Option Addr) (l : List Int) (cap : Nat) (n f : Int) (w : World) (hl : l.length ≤ 1000) (hr : Rd w B (ints l)) :
    Calls Try.prog 52 #[.slice B l.length cap, .int .i64 n, .int .i64 f] w (AreasOut l n f w) := by
  obtain ⟨i0, hi, hz0, hz1, hz2⟩ := info_parts int_info
  have hvs := searched_c B l cap n f w (by omega) hr
  by_cases hE : searchE l n f = 0
  · obtain ⟨hn0, hn6, hf1, hf2, ham⟩ := searchE_f hE
    obtain ⟨fn, rfl⟩ := Int.eq_ofNat_of_zero_le (show 0 ≤ f by omega)
    obtain ⟨nn, rfl⟩ := Int.eq_ofNat_of_zero_le hn0
    have hfn : fn ≤ 2 := by omega
    have hnn : nn ≤ 6 := by omega
    have hl0 := areModes_len ham
    have HL : Hid (areasL l nn fn = arTo (anyAt (l.getD 0 0) ((pulsesL fn nn).filter (fun x => closedAllR x l))) 2001) := by
      show _ = _
      rw [arTo_all ham hnn hfn, areasL, if_pos hE]; simp
    have HS : Hid (∀ i, i < (pulsesL fn nn).length → ((pulsesL fn nn).getD i []).length ≤ 6 ∧ -1000 ≤ areaR (l.getD 0 0) ((pulsesL fn nn).getD i []) ∧ areaR (l.getD 0 0) ((pulsesL fn nn).getD i []) ≤ 1000) := fun i hi => by
      have hm : (pulsesL fn nn).getD i [] ∈ pulsesL fn nn := by
        simp only [List.getD_eq_getElem?_getD, List.getElem?_eq_getElem hi, Option.getD_some]; exact List.getElem_mem hi
      exact ⟨by rw [pulses_len hm]; exact hnn, arR_small ham hnn hfn hm⟩
    have hln : (pulsesL fn nn).length ≤ 15625 := by rw [pulsesL_length]; exact pow_le6 hfn hnn
    have HO : Hid (∀ A c w', Rd w' A (ints (areasL l nn fn)) → Below w.heap.size w w' → AreasOut l nn fn w (.returned (.tuple #[.slice A (areasL l nn fn).length c, .int .i64 0])) w') := fun A c w' h1 h2 => ⟨A, c, by rw [hE], h1, h2⟩
    generalize areasL l nn fn = RL at HL HO
    rw [hE] at hvs
    have HVS := Lib.hid hvs
    clear hvs hE ham hn0 hn6 hf1 hf2
    obtain ⟨bb, oo, rfl, hbb, hcc⟩ := hr.at_ (k := 0) (by simpa using hl0)
    have hc0 := hcc 0 _ (ints_get hl0)
    rw [Nat.add_zero] at hc0
    generalize l.getD 0 0 = m at hc0 HL HS
    clear hcc
    go_enter Try.func52, Try.ntmps52
    go_wp2_with (fail)
    refine HVS.out.mono ?_
    rintro e w0 ⟨rfl, hb0⟩
    have hmk := make_bools w0
    have xt := Bx.new w0 4 (bools (fun _ => false))
    have hbt := bl_alloc hb0 (.cells (bools (fun _ => false)) 4)
    clear HVS
    go_wp2_with (fail)
    clear hmk
    refine (rall_c nn fn hnn hfn _).mono ?_
    rintro e w1 ⟨A, c, hs, rfl, hown, htab, hb1⟩
    have xt1 := xt.call hb1
    have hw1 := bl_call hbt hb1
    have hbg : w0.heap.size + 1 ≤ (w0.alloc (.cells (bools (fun _ => false)) 4)).heap.size := by rw [World.size_alloc]; omega
    have hg0 := hb0.size
    generalize (w0.alloc (.cells (bools (fun _ => false)) 4)).heap.size = bs at hown htab hbg
    generalize w0.heap.size = g at xt1 hbg hg0 ⊢
    clear xt hbt hb1 hb0
    generalize pulsesL fn nn = P at hown htab HL HS hln ⊢
    go_wp2_with (fail)
    go_loopw [11] (fun iv wr => ∃ i : Nat, i ≤ P.length ∧ iv = .int .i64 i ∧ Bx wr g 4 (bools (anyAt m ((P.take i).filter (fun x => closedAllR x l)))) ∧ Mod (fun k => k = g) w1 wr) (fun iv _ => P.length - (intOf iv).toNat)
    case atStart => exact ⟨0, Nat.zero_le _, rfl, xt1, Mod.refl _ _⟩
    case round =>
      obtain ⟨i, hi', rfl, hbx, hm⟩ := hrel
      have hbw : Below w.heap.size w wr := hw1.trans (hm.below hw1.size (fun k hk h => by omega))
      by_cases hlt : i < P.length
      · obtain ⟨hrd0, hA0⟩ := own_rd hown
        have hro : Rd wr A hs := hrd0.mod hm (fun a h1 _ _ h => by have h2 := hA0 a h1; omega)
        obtain ⟨Ak, ck, hk1, hk2⟩ := htab.2 i hlt
        have hrk : Rd wr Ak (ints (P.getD i [])) := (own_rd hk2).1.mod hm (fun a h1 _ _ h => by have h2 := (own_rd hk2).2 a h1; omega)
        have hhl : hs.length = P.length := htab.1
        obtain ⟨b, o, rfl, hbl, hc⟩ := hro.at_ (k := i) (by rw [hhl]; exact hlt)
        have hck := hc i _ hk1
        obtain ⟨hx6, hq1, hq2⟩ := HS.out i hlt
        have H1 := Lib.hid (@any_yes' (fun x => closedAllR x l) P i hlt)
        have H2 := Lib.hid (@any_no' (fun x => closedAllR x l) P i hlt)
        generalize P.getD i [] = x at hck hrk hx6 hq1 hq2 H1 H2
        have HQ := Lib.hid (closedIn_c Ak (some ⟨bb, oo, none⟩) x l ck cap wr (by omega) (by omega) hrk (hr.later hbw))
        generalize closedAllR x l = d at HQ H1 H2
        have hbb2 : bb < wr.heap.size := by have := hbw.size; omega
        have hcm : wr.cell? ⟨bb, oo, none⟩ = some (.int .i64 m) := (hbw.cell (p := ⟨bb, oo, none⟩) hbb).trans hc0
        clear hc hk1 hk2 hhl hro hrd0
        cases d with
        | false =>
          go_wp2_with (fail)
          refine HQ.out.mono ?_
          rintro e w4 ⟨rfl, hb4⟩
          go_wp2_with (fail)
          go_roundw
          case rel => exact ⟨i + 1, by omega, by go_num, by rw [H2.out (by simp)]; exact hbx.call hb4, hm.call hb4⟩
          case measure => simp [intOf]; omega
        | true =>
          go_wp2_with (fail)
          refine HQ.out.mono ?_
          rintro e w4 ⟨rfl, hb4⟩
          have hck4 := (hb4.cell (p := ⟨b, o + i, none⟩) hbl).trans hck
          have hcm4 := (hb4.cell (p := ⟨bb, oo, none⟩) hbb2).trans hcm
          have hbx4 := hbx.call hb4
          have hm4 := hm.call hb4
          have hrk4 := hrk.later hb4
          have hbl4 : b < w4.heap.size := Nat.lt_of_lt_of_le hbl hb4.size
          have HR := fun w5 (h : Rd w5 Ak (ints x)) => Lib.hid (rarea_c Ak x ck m w5 (by omega) h)
          generalize hqq : areaR m x = q at hq1 hq2 HR
          have HQQ := Lib.hid hqq
          clear hqq HQ hck hcm hbx hrk hb4
          obtain ⟨j, rfl⟩ : ∃ j : Nat, q = (j : Int) - 1000 := ⟨(q + 1000).toNat, by omega⟩
          have hj : j < 2001 := by omega
          have HB : Hid (∀ i', anyAt m ((P.take (i + 1)).filter (fun x => closedAllR x l)) i' = (anyAt m ((P.take i).filter (fun x => closedAllR x l)) i' || (i' == j))) := fun i' => by
            rw [H1.out (by simp), anyAt, List.any_append, List.any_cons, List.any_nil, Bool.or_false, HQQ.out]
            congr 1
            rw [Bool.eq_iff_iff, beq_iff_eq, beq_iff_eq]
            omega
          have HRd := Lib.hid (HR w4.drew (show Rd w4.drew Ak (ints x) from hrk4)).out
          generalize anyAt m ((P.take i).filter (fun x => closedAllR x l)) = F at hbx4 HB
          have hw : IntKind.i64.wrap ((j : Int) - 1000 + 1000) = (j : Int) := by rw [IntWalk.i64_in _ (by omega)]; omega
          have hw2 : IntKind.i64.wrap (j : Int) = (j : Int) := IntWalk.i64_in _ (by omega)
          have hj' : (j : Int) < 2001 := by omega
          clear HR H1 HQQ hq1 hq2 hbw hm
          go_wp2_with (fail)
          go_region_with (go_at_call 63; refine HRd.out.mono ?_; rintro e w5 ⟨rfl, hb5⟩; have hx5 := hbx4.drew.call hb5; have hcell := hx5.cell j; have hfree := hx5.free j; rw [bools_get F hj] at hcell)
          all_goals
            have hm5 : Mod (fun k => k = g) w1 w5 := hm4.drew.call hb5
            clear hcell hfree hw hw2
            go_wp2_with (fail)
            go_roundw
            case rel =>
              refine ⟨i + 1, by omega, by go_num, ?_, hm5.setCell (.inr rfl) _⟩
              have hset := hx5.set j (.bool true)
              rw [bools_set] at hset
              rw [show anyAt m ((P.take (i + 1)).filter (fun x => closedAllR x l)) = fun i' => F i' || (i' == j) from funext HB.out]
              exact hset
            case measure => simp [intOf]; omega
      · obtain rfl : i = P.length := by omega
        rw [List.take_length] at hbx
        generalize anyAt m (P.filter (fun x => closedAllR x l)) = F at hbx HL
        clear hown htab HS xt1 hw1
        go_wp2_with (fail)
        obtain ⟨wo, rfl⟩ : ∃ wo : World, wo = wr := ⟨_, rfl⟩
        have hsz := wo.heap.size
        go_loopw [12, 13] (fun v iv wr => ∃ k : Nat, k ≤ 2001 ∧ iv = .int .i64 k ∧ wr.ownsRow wo.heap.size 3 1 v (arTo F k).length (ints (arTo F k)) ∧ Below wo.heap.size wo wr) (fun _ iv _ => 2001 - (intOf iv).toNat)
        case atStart => exact ⟨0, by omega, rfl, World.ownsRow_nil _ _ _ _, Below.refl _ _⟩
        case round =>
          obtain ⟨k, hk, rfl, hown, hb⟩ := hrel
          by_cases hlt : k < 2001
          · have hbxr := hbx.call hb
            have hcell := hbxr.cell k
            rw [bools_get F hlt] at hcell
            have HY := Lib.hid (@arTo_yes F k)
            have HN := Lib.hid (@arTo_no F k)
            have hal := arTo_len F k
            generalize F k = d at hcell HY HN
            generalize arTo F k = L at hown HY HN hal
            cases d with
            | false =>
              go_wp2_with (fail)
              go_roundw
              case rel => exact ⟨k + 1, by omega, by go_num, by rw [HN.out (by simp)]; exact hown, hb⟩
              case measure => simp [intOf]; omega
            | true =>
              go_wp2_with (at_builtin; refine wpList_append_own _ rfl _ _ 22 rfl wo.heap.size 3 i0 _ 1 8 Try.underlying22 hi hz0 hz1 hz2 rfl (by decide) _ _ _ rfl (hown.alloc _) ⟨wr.heap.size, 0, none⟩ 1 1 [.int .i64 ((k : Int) - 1000)] rfl rfl (cell_new1 _ _ _) (fun u hu => by rw [List.mem_singleton.1 hu]; rfl) (by unfold maxLen; omega) (by omega) (by rw [World.size_alloc]; have := hb.size; omega) ?_)
              intro v2 w4 hown4 hg4 _
              have hb4 : Below wo.heap.size wo w4 := (hb.alloc hb.size _).trans (grown_below (hown.alloc _) hg4 (by rw [World.size_alloc]; have := hb.size; omega))
              have HOw : Hid (w4.ownsRow wo.heap.size 3 1 v2 (arTo F (k + 1)).length (ints (arTo F (k + 1)))) := by
                show World.ownsRow _ _ _ _ _ _ _
                rw [HY.out (by simp), ints_snoc, List.length_append]; exact hown4
              clear hown4 hg4 hown
              go_wp2_with (fail)
              go_roundw
              case rel => exact ⟨k + 1, by omega, by go_num, HOw.out, hb4⟩
              case measure => simp [intOf]; omega
          · obtain rfl : k = 2001 := by omega
            obtain ⟨A', c', rfl⟩ := own_form hown
            go_wp2_with (fail)
            go_ret2
            rw [← HL.out] at hown ⊢
            exact HO.out _ _ _ (own_rd hown).1 (bl_call hbw hb)
  · have hE' : (searchE l n f != 0) = true := by simpa using hE
    have HO : Hid (∀ w', Below w.heap.size w w' → AreasOut l n f w (.returned (.tuple #[.slice none 0 0, .int .i64 (searchE l n f)])) w') := fun w' h => by
      have hL : areasL l n f = [] := by rw [areasL, if_neg hE]
      exact ⟨none, 0, by rw [hL]; rfl, by rw [hL]; exact .inl rfl, h⟩
    generalize hEE : searchE l n f = E at hvs hE' HO
    have HEE := Lib.hid hEE
    clear hEE
    have HVS := Lib.hid hvs
    clear hvs hE
    go_enter Try.func52, Try.ntmps52
    go_wp2_with (fail)
    refine HVS.out.mono ?_
    rintro e w0 ⟨rfl, hb0⟩
    go_wp2_with (fail)
    go_ret2
    exact HO.out _ hb0
end Go.Proofs.Ytpjdojjdhbmbjaa
