/- The inverse of a circuit: mathematics; slices.Reverse at gates; package circuit's Inverse. -/
import Derived.Test.YteoajadcdjaalaaSortL
import Derived.Test.YteoajadcdjaalaaCatG
import Derived.Test.YteoajadcdjaalaaShortM
import Derived.Shelf.SlicesQ.Reverse
namespace Go.Proofs.Yteoajadcdjaalaa
open Go.RowKit Go.Sort

def backG (g : G) : G := (g.1, g.2.1, g.2.2.1, 16 - g.2.2.2)
def invL (l : List G) : List G := l.reverse.map backG
theorem invL_len (l : List G) : (invL l).length = l.length := by simp [invL]
theorem backG_back (g : G) : backG (backG g) = g := by
  obtain ⟨a, b, c, d⟩ := g
  simp only [backG]
  rw [show 16 - (16 - d) = d by omega]
theorem invL_inv (l : List G) : invL (invL l) = l := by
  unfold invL
  rw [← List.map_reverse, List.reverse_reverse, List.map_map]
  have : backG ∘ backG = id := funext backG_back
  rw [this, List.map_id]
theorem backG_gate {n : Int} {g : G} (h : gateB n g = true) : gateB n (backG g) = true := by
  obtain ⟨a, b, c, d⟩ := g
  have h' : isGateB n a b c d = true := h
  show isGateB n a b c (16 - d) = true
  unfold isGateB at *
  rw [Bool.and_eq_true] at h' ⊢
  refine ⟨?_, h'.2⟩
  have := h'.1
  simp at this ⊢
  omega
theorem validE_inv {n : Int} {l : List G} (h : validE n l = 0) : validE n (invL l) = 0 :=
  validE_of h (by rw [invL_len]; exact Nat.le_refl _) (fun x hx => by
    simp only [invL, List.mem_map, List.mem_reverse] at hx
    obtain ⟨y, hy, rfl⟩ := hx
    exact backG_gate (validE_gates h y hy))
theorem inv_nothing : ∀ (k : Nat) (l : List G), l.length = k → AngL l → alkL (shortL (l ++ invL l)) []
  | 0, l, h, _ => by rw [List.length_eq_zero_iff.1 h]; exact alkL.refl _
  | k + 1, l, h, ha => by
    rcases List.eq_nil_or_concat l with rfl | ⟨p, x, rfl⟩
    · simp at h
    · have e2 : (p.concat x) = p ++ [x] := by simp
      rw [e2] at h ha ⊢
      have hp : AngL p := fun y hy => ha y (by simp [hy])
      have hx : Ang x := ha x (by simp)
      have hb : Ang (backG x) := by unfold Ang at hx ⊢; simp only [backG]; omega
      have ei : invL (p ++ [x]) = backG x :: invL p := by simp [invL]
      have h1 : shortL (p ++ [x] ++ invL (p ++ [x])) = (invL p).foldl withL (withL (withL (shortL p) x) (backG x)) := by
        rw [ei]
        unfold shortL
        rw [List.append_assoc, List.foldl_append, List.singleton_append, List.foldl_cons, List.foldl_cons]
      have h0 : sumW x (backG x) = 0 := by simp only [sumW, backG]; omega
      have h2 := with_two (short_sh p) (shortL_ang hp) (g := x) (g' := backG x) rfl hx hb
      rw [if_pos h0] at h2
      rw [h1]
      refine (fold_alk _ h2).trans ?_
      rw [← short_append]
      exact inv_nothing k p (by simpa using h) hp
theorem inv_red {n : Int} {l : List G} (h : validE n l = 0) : reducedL (l ++ invL l) = [] := by
  have h1 := inv_nothing l.length l rfl (gatesE_ang h).2.1
  have h2 := alk_nil h1.symm
  rw [reducedL, h2]; rfl
theorem inv_join {n : Int} {l : List G} (h : validE n l = 0) : joinE n l (invL l) = (if 10 < l.length + l.length then 3 else 0) := by
  have hb : bothE n l (invL l) = 0 := by rw [bothE, if_pos h, validE_inv h]
  rw [joinE, if_pos hb, invL_len]

/-- A row that a library's function has written anew. -/
theorem own_holds {w : World} {base g c : Nat} {l : List G} (hown : w.ownsRow base 23 4 (.slice (some ⟨g, 0, none⟩) l.length c) l.length (cellsG l)) : HoldsK encG 4 w g 0 l.toArray := by
  rcases hown.2 with ⟨h0, _⟩ | ⟨g', cap, cur, hv, hbg, hheap, hle, hm, hsz, hpre⟩
  · cases h0
  injection hv with hA _ hc
  injection hA with hA
  injection hA with hA
  subst hA hc
  show Holds id w g 0 (flatK encG 4 l.toArray)
  rw [flat_cells]
  intro j hj
  have hj' : j < (cellsG l).length := by simpa using hj
  refine ⟨?_, by simp [World.frozen?, hheap]⟩
  have h1 := hown.cells (g := g) rfl j ((cellsG l)[j]) (List.getElem?_eq_getElem hj')
  have e1 : (⟨g, 0, none⟩ : Addr).add j = ⟨g, j, none⟩ := by unfold Addr.add; split <;> simp_all
  rw [e1] at h1
  rw [Nat.zero_add, h1]
  have e2 : (cellsG l).toArray[j]! = (cellsG l)[j] := by rw [getElem!_pos _ j hj]; rfl
  rw [e2]; rfl
theorem own_anew {w : World} {base g c n : Nat} {l m : List G} (hown : w.ownsRow base 23 4 (.slice (some ⟨g, 0, none⟩) l.length c) l.length (cellsG l)) (hl : m.length = l.length) :
    (putRowK encG 4 (Go.Sort.ahead w n) g 0 m.toArray).ownsRow base 23 4 (.slice (some ⟨g, 0, none⟩) l.length c) l.length (cellsG m) ∧ w.grownBy (putRowK encG 4 (Go.Sort.ahead w n) g 0 m.toArray) (some g) := by
  rcases hown.2 with ⟨h0, _⟩ | ⟨g', cap, cur, hv, hbg, hheap, hle, hm, hsz, hpre⟩
  · cases h0
  injection hv with hA _ hc
  injection hA with hA
  injection hA with hA
  subst hA hc
  refine ⟨⟨by rw [cellsG_length, hl], .inr ⟨g, c, putCells id 0 (flatK encG 4 m.toArray) cur, rfl, hbg, ?_, hle, hm, by simpa [putCells] using hsz, ?_⟩⟩, rfl, rfl, rfl, ?_, fun k hk hne => ?_⟩
  · exact putRow_at (w := Go.Sort.ahead w n) hheap
  · rw [flat_cells]
    have h := putCells_take (cellsG m).toArray cur (by simp [hl]; rw [hsz]; exact Nat.mul_le_mul_right 4 hle)
    simpa [hl] using h
  · show w.heap.size ≤ (w.heap.modify g _).size
    simp
  · exact putRow_far (w := Go.Sort.ahead w n) (fun e => hne (by rw [e]))

set_option maxRecDepth 100000 in
theorem reverse_c (base : Nat) (A : Option Addr) (l : List G) (c : Nat) (w : World) (hlen : l.length ≤ 1000) (hown : w.ownsRow base 23 4 (.slice A l.length c) l.length (cellsG l)) :
    Calls Try.prog 80 #[.slice A l.length c] w fun e w' => e = .returned (.tuple #[]) ∧ w'.ownsRow base 23 4 (.slice A l.length c) l.length (cellsG l.reverse) ∧ w.grownBy w' (Value.slice A l.length c).ownBlock := by
  rcases Nat.eq_zero_or_pos l.length with h0 | h0
  · have hl : l = [] := List.length_eq_zero_iff.1 h0
    subst hl
    exact (AnyQ.slices_Reverse_empty Try.reverseG A c w).mono fun e w' ⟨he, hw⟩ => ⟨he, by rw [hw]; exact hown, by rw [hw]; exact World.grownBy.refl w _⟩
  · obtain ⟨g, rfl, _, _, _, _⟩ := own_cell hown h0
    refine (AnyQ.slices_Reverse Try.reverseG 4 isAggG sizeOfG encG (fun _ => rfl) (fun x v hv => by simp [encG] at hv; rcases hv with rfl | rfl | rfl | rfl <;> rfl) g 0 c l.toArray w (own_holds hown) (by simp; omega)).mono fun e w' ⟨he, n, hw⟩ => ?_
    have h := own_anew (n := n) (m := l.reverse) hown (by simp)
    have er : l.toArray.reverse = l.reverse.toArray := by simp
    rw [er] at hw
    rw [hw]
    exact ⟨he, h.1, h.2⟩

def invE (n : Int) (l : List G) : List G := if validE n l = 0 then invL l else []
/-- The inverse with the first k gates turned back. -/
def turnTo (l : List G) (k : Nat) : List G := (l.reverse.take k).map backG ++ l.reverse.drop k
theorem turnTo_len (l : List G) (k : Nat) : (turnTo l k).length = l.length := by simp [turnTo]; omega
theorem turnTo_all (l : List G) : turnTo l l.length = invL l := by rw [turnTo, invL, List.take_of_length_le (by simp), List.drop_of_length_le (by simp), List.append_nil]
theorem turnTo_at {l : List G} {k : Nat} (h : k < l.length) : (turnTo l k).getD k g0 = l.reverse.getD k g0 := by
  rw [turnTo, List.getD_eq_getElem?_getD, List.getElem?_append_right (by simp; omega)]
  simp [Nat.min_eq_left (Nat.le_of_lt h), h]
theorem turnTo_succ {l : List G} {k : Nat} (h : k < l.length) : turnTo l (k + 1) = (turnTo l k).set k (backG (l.reverse.getD k g0)) := by
  have hl : ((l.reverse.take k).map backG).length = k := by simp; omega
  have hk : k < l.reverse.length := by simpa using h
  have hd : l.reverse.drop k = l.reverse.getD k g0 :: l.reverse.drop (k + 1) := by rw [List.drop_eq_getElem_cons hk]; simp [h]
  have ht : l.reverse.take (k + 1) = l.reverse.take k ++ [l.reverse.getD k g0] := by rw [List.take_succ_eq_append_getElem hk]; simp [h]
  rw [turnTo, turnTo, ht, List.map_append, List.set_append_right _ _ (by omega), hl, Nat.sub_self, hd]
  simp

set_option maxRecDepth 100000 in
set_option maxHeartbeats 2000000 in
theorem Inverse_c (n : Int) (A : Option Addr) (l : List G) (c : Nat) (w : World) (hlen : l.length ≤ 1000) (hr : Rd w A (cellsG l)) :
    Calls Try.prog 46 #[.int .i64 n, .slice A l.length c] w (OutG (invE n l) (validE n l) w) := by
  have HV := Lib.hid (validate_c n A l c w hlen hr)
  by_cases hv : validE n l = 0
  · obtain ⟨h10, hang, _⟩ := gatesE_ang hv
    have HS := fun (w1 : World) (h : Rd w1 A (cellsG l)) => Lib.hid (clone_c A l c w1 hlen h)
    have HB : invE n l = invL l := by rw [invE, if_pos hv]
    have HLI : Hid ((invL l).length = l.length) := invL_len l
    have HR := fun base B d w1 h => Lib.hid (reverse_c base B l d w1 hlen h)
    rw [hv] at HV
    rw [hv, HB]
    clear HB
    go_enter Try.func46, Try.ntmps46
    go_wp2_with (go_at_call 24; refine HV.out.mono ?_; rintro e w1 ⟨rfl, hb1⟩)
    refine (HS _ (hr.later hb1)).out.mono ?_
    rintro e w2 ⟨A2, c2, rfl, ho2, hb2⟩
    have HR' := HR w1.heap.size A2 c2 w2 ho2
    clear HR HS
    go_wp2_with (fail)
    refine HR'.out.mono ?_
    rintro e w3 ⟨rfl, ho3, hg3⟩
    have hb3 : RowKit.Below w1.heap.size w1 w3 := hb2.trans (grown_below ho2 hg3 hb2.size)
    have HT0 : Hid (turnTo l 0 = l.reverse) := by show _ = _; simp [turnTo]
    have HT1 := Lib.hid (turnTo_all l)
    have HTs := fun k h => Lib.hid (@turnTo_succ l k h)
    have HTa := fun k h => Lib.hid (@turnTo_at l k h)
    have HTl := fun k => Lib.hid (turnTo_len l k)
    have HAn : Hid (∀ k, k < l.length → Ang (l.reverse.getD k g0)) := fun k hk => hang _ (by
      have h : k < l.reverse.length := by simpa using hk
      have e : l.reverse.getD k g0 = l.reverse[k] := by rw [List.getD_eq_getElem?_getD, List.getElem?_eq_getElem h]; rfl
      rw [e, ← List.mem_reverse]; exact List.getElem_mem h)
    clear HR' ho2 hg3
    go_wp2_with (fail)
    go_loopg [21] l.length (fun gk kv wr => ∃ k : Nat, Hid (k + gk = l.length) ∧ kv = .int .i64 (k : Int) ∧ wr.ownsRow w1.heap.size 23 4 (.slice A2 l.length c2) l.length (cellsG (turnTo l k)) ∧ RowKit.Below w1.heap.size w1 wr)
    case atStart => exact ⟨0, by simp [Hid], rfl, by rw [HT0.out]; exact ho3, hb3⟩
    case round =>
      obtain ⟨k, HK, rfl, ho, hb⟩ := hrel
      rcases gk with _ | gi
      · obtain rfl : k = l.length := HK.out
        rw [HT1.out] at ho
        go_wp2_with (fail)
        go_ret2
        exact ⟨A2, c2, by rw [HLI.out]; rfl, by rw [HLI.out]; exact own_base ho hb1.size, bl_call hb1 hb⟩
      · have hk : k < l.length := by have h := HK.out; omega
        have hk' : (k : Int) < (l.length : Int) := by omega
        obtain ⟨g, rfl, hgb, hgl, hfr, hcell⟩ := own_cell ho (by omega)
        have htl := (HTl k).out
        obtain ⟨_, _, _, d3⟩ := cellsG_get (turnTo l k) k (by omega)
        have p3 := hcell _ _ d3
        rw [(HTa k hk).out] at p3
        have hf3 := hfr (k * 4 + 3)
        have hA := HAn.out k hk
        unfold Ang at hA
        have hset := own_put ho (p := k * 4 + 3) (.int .i64 (16 - (l.reverse.getD k g0).2.2.2))
        have hcs : (cellsG (turnTo l k)).set (k * 4 + 3) (.int .i64 (16 - (l.reverse.getD k g0).2.2.2)) = cellsG (turnTo l (k + 1)) := by
          rw [(HTs k hk).out]
          exact cellsG_set (turnTo l k) k (backG (l.reverse.getD k g0)) (l.reverse.getD k g0) (HTa k hk).out rfl rfl rfl
        rw [hcs] at hset
        have hb' := hb.setCell (p := ⟨g, k * 4 + 3, none⟩) hgb (.int .i64 (16 - (l.reverse.getD k g0).2.2.2))
        clear hcell hfr hcs d3 htl HTs HTa HTl HAn ho
        generalize (l.reverse.getD k g0).2.2.2 = t at *
        go_wp2_with (fail)
        go_roundg gi
        case rel => exact ⟨k + 1, by have h := HK.out; show _ = _; omega, by go_num, hset, hb'⟩
        case measure => omega
  · have HB : invE n l = [] := by rw [invE, if_neg hv]
    rw [HB]
    clear HB
    generalize validE n l = ev at hv HV
    go_enter Try.func46, Try.ntmps46
    go_wp2_with (go_at_call 24; refine HV.out.mono ?_; rintro e w1 ⟨rfl, hb1⟩)
    go_ret2
    exact ⟨none, 0, rfl, World.ownsRow_nil _ _ _ _, hb1⟩
end Go.Proofs.Yteoajadcdjaalaa
