/- The document's SameLists at equal tables; the walk of the law on layers. -/
import Derived.Test.YteoajadcdjaalaaRlayers
import Derived.Test.YteoajadcdjaalaaFirstsW
namespace Go.Proofs.Yteoajadcdjaalaa
open Go.RowKit

set_option maxRecDepth 100000 in
set_option maxHeartbeats 2000000 in
theorem samelists_c {base base' : Nat} (A B : Option Addr) (ls : List (List G)) (c d : Nat) (hs hs' : List Value) (w : World) (hlen : ls.length ≤ 1000) (hin : ∀ k, k < ls.length → (ls.getD k []).length ≤ 1000)
    (ho : w.ownsRow base 29 1 (.slice A ls.length c) ls.length hs) (ht : TabG w base hs ls) (ho' : w.ownsRow base' 29 1 (.slice B ls.length d) ls.length hs') (ht' : TabG w base' hs' ls) :
    Calls Try.prog 33 #[.slice A ls.length c, .slice B ls.length d] w fun e w' => e = .returned (.bool true) ∧ Below w.heap.size w w' := by
  go_enter Try.func33, Try.ntmps33
  go_wp2_with (fail)
  go_loopg [5] ls.length (fun gk iv wr => ∃ i : Nat, Hid (i + gk = ls.length) ∧ iv = .int .i64 (i : Int) ∧ Below w.heap.size w wr)
  case atStart => exact ⟨0, by simp [Hid], rfl, Below.refl _ _⟩
  case round =>
    obtain ⟨i, HI, rfl, hb⟩ := hrel
    rcases gk with _ | gi
    · obtain rfl : i = ls.length := HI.out
      go_wp2_with (fail)
      go_ret
      exact ⟨rfl, hb⟩
    · have hil : i < ls.length := by have h := HI.out; omega
      have hil' : (i : Int) < (ls.length : Int) := by omega
      obtain ⟨A1, c1, h1, h2⟩ := ht.2.1 i hil
      obtain ⟨A2, c2, k1, k2⟩ := ht'.2.1 i hil
      have hl := hin i hil
      generalize ls.getD i [] = row at *
      obtain ⟨OB, rfl, _, hlt1, _, hc1⟩ := own_cell ho (by omega)
      obtain ⟨OC, rfl, _, hlt2, _, hc2⟩ := own_cell ho' (by omega)
      have hic : i < c := by have := own_cap ho; omega
      have hid : i < d := by have := own_cap ho'; omega
      have HC1 : Hid (∀ w1, Below w.heap.size w w1 → w1.cell? ⟨OB, i, none⟩ = some (.slice A1 row.length c1) ∧ w1.cell? ⟨OC, i, none⟩ = some (.slice A2 row.length c2)) := fun w1 hb1 => ⟨(hb1.cell (p := ⟨OB, i, none⟩) hlt1).trans (hc1 i _ h1), (hb1.cell (p := ⟨OC, i, none⟩) hlt2).trans (hc2 i _ k1)⟩
      have HS : ∀ w1, Below w.heap.size w w1 → Hid (Calls Try.prog 27 #[.slice A1 row.length c1, .slice A2 row.length c2] w1 fun e w' => e = .returned (.bool true) ∧ Below w1.heap.size w1 w') := fun w1 hb1 => by
        have h := same_c A1 A2 row row c1 c2 w1 hl ((own_rd h2).1.later hb1) ((own_rd k2).1.later hb1)
        rw [show sameL row row = true by simp [sameL]] at h
        exact h
      have hCC : Below w.heap.size w wr.drew := hb.drew
      clear hc1 hc2
      go_wp2_with (fail)
      refine wp_region_low (hCC) (by kernel_rfl) (by kernel_rfl) ?_
      repeat (first
        | go_big_quiet_skip
        | (go_big_quiet_want
           apply Exists.intro
           refine And.intro (fun W hW => ?_) ?_
           · (obtain ⟨p1, p2⟩ := HC1.out W hW)
             go_simp
             first
               | exact rfl
               | ((refine (HS W hW).out.mono ?_; rintro e w1 ⟨rfl, hb1⟩; exact ⟨rfl, bl_call hW hb1⟩))
           try go_simp
           go_big_quiet_on))
      refine wpQuiet_nil ?_
      intro w9 hb9
      go_wp2_with (fail)
      go_roundg gi
      case rel => exact ⟨i + 1, by have h := HI.out; show _ = _; omega, by go_num, hb9⟩
      case measure => omega

theorem flat_take {α : Type} (T : List (List α)) {i : Nat} (h : i < T.length) : (T.take (i + 1)).flatten = (T.take i).flatten ++ T.getD i [] ∧ (T.take i).flatten.length + (T.getD i []).length ≤ T.flatten.length := by
  have ht : T.take (i + 1) = T.take i ++ [T.getD i []] := by rw [List.take_succ_eq_append_getElem h]; simp [h]
  have h1 : (T.take (i + 1)).flatten = (T.take i).flatten ++ T.getD i [] := by rw [ht, List.flatten_append]; simp
  refine ⟨h1, ?_⟩
  have h2 : T.flatten = (T.take (i + 1)).flatten ++ (T.drop (i + 1)).flatten := by rw [← List.flatten_append, List.take_append_drop]
  rw [h2, h1]; simp
theorem lay_flat {n : Int} {l : List G} (h : validE n l = 0) : alikeB n l (layL l).flatten = true ∧ bothE n l (layL l).flatten = 0 ∧ (layL l).flatten.length = l.length := by
  have ha := lay_alk l
  have hp := alk_perm ha
  have hb : bothE n l (layL l).flatten = 0 := by rw [bothE, if_pos h, ← validE_perm hp, h]
  exact ⟨by rw [alikeB, hb, (alk_iff _ _).1 ha]; simp [sameL], hb, hp.length_eq.symm⟩

set_option maxRecDepth 100000 in
set_option maxHeartbeats 4000000 in
theorem circuitLayers_walk (n : Int) (A : Option Addr) (l : List G) (c : Nat) (w : World) (hcap : l.length ≤ c) (_hn : (Lit.int .i64 n).wf = true) (hr : Rd w A (cellsG l)) :
    Calls Try.prog 8 #[.int .i64 n, .slice A l.length c] w fun e w' => e = .returned (.bool true) ∧ Below w.heap.size w w' := by
  obtain ⟨i0, hi, hz0, hz1, hz2⟩ := info_parts gate_info
  have HL := fun w => Lib.hid (long_c A l.length c w)
  have HK := fun w => Lib.hid (known_c w)
  by_cases hlong : 50 < l.length
  · rw [decide_eq_true hlong] at HL
    go_enter Try.func8, Try.ntmps8
    go_wp2_with (fail)
    refine (HL _).out.mono ?_
    rintro e w1 ⟨rfl, rfl⟩
    go_wp2_with (fail)
    refine (HK _).out.mono ?_
    rintro e w2 ⟨rfl, hb2⟩
    go_wp2_with (fail)
    go_ret
    exact ⟨rfl, hb2⟩
  · rw [decide_eq_false hlong] at HL
    have hlen : l.length ≤ 1000 := by omega
    clear hlong
    have H1 := Lib.hid (Layers_c n A l c w hlen hr)
    have H2 := fun w1 hr1 => Lib.hid (rLayers_c n A l c w1 hlen hcap hr1)
    have H3 := fun w1 hr1 => Lib.hid (Depth_c n A l c w1 hlen hr1)
    have HV : Hid (validE n l = 0 → alikeB n l (lysL n l).flatten = true ∧ bothE n l (lysL n l).flatten = 0) := fun h => by
      have e : lysL n l = layL l := by rw [lysL, if_pos h]
      obtain ⟨h1, h2, _⟩ := lay_flat h
      rw [e]; exact ⟨h1, h2⟩
    have hfl : (lysL n l).flatten.length ≤ l.length := by
      by_cases h : validE n l = 0
      · have e : lysL n l = layL l := by rw [lysL, if_pos h]
        obtain ⟨_, _, h3⟩ := lay_flat h
        rw [e]; omega
      · have e : lysL n l = [] := by rw [lysL, if_neg h]
        rw [e]; simp
    have hTl : (lysL n l).length ≤ 1000 := by
      by_cases h : validE n l = 0
      · have e : lysL n l = layL l := by rw [lysL, if_pos h]
        rw [e, layL, List.length_map, tabTo_len]
        have := cntTo_le (lvL l l.length) (lvL_range l l.length) l.length
        omega
      · have e : lysL n l = [] := by rw [lysL, if_neg h]
        rw [e]; simp
    have hin : ∀ k, k < (lysL n l).length → ((lysL n l).getD k []).length ≤ 1000 := fun k hk => by
      have := (flat_take (lysL n l) hk).2
      omega
    have H4 := fun (B : Option Addr) (d : Nat) (w1 : World) h1 h2 => Lib.hid (Alike_c n A B l (lysL n l).flatten c d w1 hlen (by omega) h1 h2)
    have HFa : Hid (((lysL n l).take (lysL n l).length).flatten = (lysL n l).flatten) := by show _ = _; rw [List.take_length]
    have HFt : Hid (∀ i, i < (lysL n l).length → ((lysL n l).take (i + 1)).flatten = ((lysL n l).take i).flatten ++ (lysL n l).getD i [] ∧ ((lysL n l).take i).flatten.length + ((lysL n l).getD i []).length ≤ 1000) := fun i h => by
      obtain ⟨h1, h2⟩ := flat_take (lysL n l) h
      exact ⟨h1, by omega⟩
    have HIN := Lib.hid hin
    have HTL := Lib.hid hTl
    clear hin hTl hfl
    generalize alikeB n l (lysL n l).flatten = ab at *
    generalize bothE n l (lysL n l).flatten = eb at *
    generalize (lysL n l).flatten = fl at *
    generalize lysL n l = T at *
    generalize validE n l = ev at *
    go_enter Try.func8, Try.ntmps8
    go_wp2_with (fail)
    refine (HL _).out.mono ?_
    rintro e w1 ⟨rfl, rfl⟩
    go_wp2_with (fail)
    refine H1.out.mono ?_
    rintro e w1 ⟨A1, c1, hs1, rfl, ho1, ht1, hb1⟩
    go_wp2_with (fail)
    refine (H2 _ (hr.later hb1)).out.mono ?_
    rintro e w2 ⟨A2, c2, hs2, rfl, ho2, ht2, hb2⟩
    have hb12 := bl_call hb1 hb2
    go_wp2_with (fail)
    refine (H3 _ (hr.later hb12)).out.mono ?_
    rintro e w3 ⟨rfl, hb3⟩
    have hb13 := bl_call hb12 hb3
    have hb23 := bl_call hb2 hb3
    have HS := Lib.hid (samelists_c A1 A2 T c1 c2 hs1 hs2 w3 HTL.out HIN.out (own_call ho1 hb23) (ht1.call hb23) (own_call ho2 hb3) (ht2.call hb3))
    clear H1 H2 H3
    go_wp2_with (fail)
    refine HS.out.mono ?_
    rintro e w4 ⟨rfl, hb4⟩
    have hb14 := bl_call hb13 hb4
    have ho4 := own_call ho1 (bl_call hb23 hb4)
    have ht4 := ht1.call (bl_call hb23 hb4)
    have HO := Lib.hid ho4
    have HT := Lib.hid ht4
    clear HS HIN ho1 ho2 ht1 ht2 ho4 ht4 hb1 hb2 hb3 hb12 hb13 hb23 hb4
    by_cases hv : ev = 0
    · obtain ⟨rfl, rfl⟩ := HV.out hv
      subst hv
      clear HV
      go_wp2_with (fail)
      go_loopg [11, 12] T.length (fun gk sv iv wr => ∃ i : Nat, Hid (i + gk = T.length) ∧ iv = .int .i64 (i : Int) ∧ wr.ownsRow w4.heap.size 23 4 sv (T.take i).flatten.length (cellsG (T.take i).flatten) ∧ Below w4.heap.size w4 wr)
      case atStart => exact ⟨0, by simp [Hid], rfl, World.ownsRow_nil _ _ _ _, Below.refl _ _⟩
      case round =>
        obtain ⟨i, HI, rfl, ho, hb⟩ := hrel
        obtain ⟨B, d, rfl⟩ := own_form ho
        rcases gk with _ | gi
        · obtain rfl : i = T.length := HI.out
          rw [HFa.out] at ho ⊢
          have H4' := H4 B d wr (hr.later (bl_call hb14 hb)) (own_rd ho).1
          clear H4 HFt HFa
          go_wp2_with (fail)
          refine H4'.out.mono ?_
          rintro e w5 ⟨rfl, hb5⟩
          go_wp2_with (fail)
          refine (HK _).out.mono ?_
          rintro e w6 ⟨rfl, hb6⟩
          go_wp2_with (fail)
          go_ret
          exact ⟨rfl, bl_call (bl_call (bl_call hb14 hb) hb5) hb6⟩
        · have hil : i < T.length := by have h := HI.out; omega
          have hil' : (i : Int) < (T.length : Int) := by omega
          have hi1000 : i < 1000 := by have := HTL.out; omega
          have hft := HFt.out i hil
          obtain ⟨A5, c5, h1, h2⟩ := HT.out.2.1 i hil
          obtain ⟨OB, rfl, _, hlt1, _, hc1⟩ := own_cell HO.out (by omega)
          have hcr := (hb.cell (p := ⟨OB, i, none⟩) hlt1).trans (hc1 i _ h1)
          have hrd := (own_rd h2).1.later hb
          have hic : i < c1 := by have := own_cap HO.out; omega
          have hbd := hft.2
          have HE := Lib.hid hft.1
          clear hc1 hft
          generalize T.getD i [] = row at *
          generalize (T.take i).flatten = done at *
          go_wp2_with (at_builtin; refine wpList_append_any rfl _ _ 29 rfl w4.heap.size 23 i0 _ 32 Try.underlying29 hi hz0 hz1 hz2 rfl _ done.length (cellsG done) rfl ho A5 row c5 rfl hrd (by unfold maxLen; omega) (by omega) hb.size ?_)
          intro A6 c6 w6 ho6 hg6
          have hb6 := hb.trans (grown_below ho hg6 hb.size)
          have HO : Hid (w6.ownsRow w4.heap.size 23 4 (.slice A6 (done.length + row.length) c6) (T.take (i + 1)).flatten.length (cellsG (T.take (i + 1)).flatten)) := by
            show World.ownsRow _ _ _ _ _ _ _
            rw [HE.out, List.length_append, cellsG_append]; exact ho6
          clear ho6 hg6 ho
          go_wp2_with (fail)
          go_roundg gi
          case rel => exact ⟨i + 1, by have h := HI.out; show _ = _; omega, by go_num, HO.out, hb6⟩
          case measure => omega
    · clear HV
      go_wp2_with (fail)
      refine (HK _).out.mono ?_
      rintro e w5 ⟨rfl, hb5⟩
      go_wp2_with (fail)
      go_ret
      exact ⟨rfl, bl_call hb14 hb5⟩
end Go.Proofs.Yteoajadcdjaalaa
