/- Which readings add nothing: package drift's. -/
import Derived.Test.YtbbhaongakmhpaaEql
import Derived.Test.YtbbhaongakmhpaaWit
import Derived.Test.YtbbhaongakmhpaaWid
namespace Go.Proofs.Ytbbhaongakmhpaa
open Go.RowKit Go.Maps

def ndlB (l : List T3) (r : Int) : Bool := decide (ratE l r = 0) && decide (l.length ≠ 1) && agreeB l r
def ndlG (l : List T3) (r : Int) : List Int := if ndlB l r = true then needL l r else []
theorem ndl_cases (l : List T3) (r : Int) : (ratE l r ≠ 0 ∧ ndlG l r = []) ∨ (ratE l r = 0 ∧ l.length = 1 ∧ ndlG l r = []) ∨ (ratE l r = 0 ∧ l.length ≠ 1 ∧ agreeB l r = false ∧ ndlG l r = []) ∨ (ratE l r = 0 ∧ l.length ≠ 1 ∧ agreeB l r = true ∧ ndlG l r = needL l r) := by
  unfold ndlG ndlB
  by_cases h1 : ratE l r = 0
  · by_cases h2 : l.length = 1
    · exact .inr (.inl ⟨h1, h2, by simp [h2]⟩)
    · rcases h3 : agreeB l r with _ | _
      · exact .inr (.inr (.inl ⟨h1, h2, rfl, by simp⟩))
      · exact .inr (.inr (.inr ⟨h1, h2, rfl, by simp [h1, h2]⟩))
  · exact .inl ⟨h1, by simp [h1]⟩
theorem need_next (l : List T3) (r : Int) (k : Nat) : (needlessB l r k = true → needTo l r (k + 1) = needTo l r k ++ [(k : Int)]) ∧ (needlessB l r k = false → needTo l r (k + 1) = needTo l r k) :=
  ⟨fun h => by rw [needTo, if_pos h], fun h => by rw [needTo, if_neg (by rw [h]; decide)]⟩
theorem need_len (l : List T3) (r : Int) : ∀ k, (needTo l r k).length ≤ k
  | 0 => Nat.le_refl _
  | k + 1 => by
    have := need_len l r k
    unfold needTo
    split
    · simp; omega
    · omega
set_option maxRecDepth 100000 in
set_option maxHeartbeats 8000000 in
theorem Needless_c (A : Option Addr) (l : List T3) (cap : Nat) (r : Int) (w : World) (hlen : l.length ≤ 1000) (hr : Rd w A (cellsT l)) :
    Calls Try.prog 43 #[.slice A l.length cap, .int .i64 r] w (OutI (ndlG l r) (ratE l r) w) := by
  have HV := Lib.hid (validateBy_c A l cap r w hlen hr)
  rcases ndl_cases l r with ⟨hv, hG⟩ | ⟨hv, h2, hG⟩ | ⟨hv, h2, h3, hG⟩ | ⟨hv, h2, h3, hG⟩
  · have hv' : (ratE l r != 0) = true := by simpa using hv
    rw [hG]
    clear hG
    generalize ratE l r = v at *
    go_enter Try.func43, Try.ntmps43
    go_wp2_with (go_at_call 55; refine HV.out.mono ?_; rintro e w1 ⟨rfl, hb1⟩)
    go_ret2
    exact ⟨none, 0, rfl, World.ownsRow_nil _ _ _ _, hb1⟩
  · rw [hG, hv]
    rw [hv] at HV
    have h2n : (l.length : Int) = 1 := by omega
    clear hG hv h2
    go_enter Try.func43, Try.ntmps43
    go_wp2_with (go_at_call 55; refine HV.out.mono ?_; rintro e w1 ⟨rfl, hb1⟩)
    go_ret2
    exact ⟨none, 0, rfl, World.ownsRow_nil _ _ _ _, hb1⟩
  · obtain ⟨ho, h0, h9⟩ := ratE_ok.1 hv
    have HA := fun w' h => Lib.hid (agree_c A l cap r w' hlen (ho.fit h0 h9) (hr.later (w' := w') h))
    rw [hG, hv]
    rw [hv] at HV
    rw [h3] at HA
    have h2' : ((l.length : Int) == 1) = false := by rw [beq_eq_false_iff_ne]; omega
    clear hG hv h2 h3 ho h0 h9
    go_enter Try.func43, Try.ntmps43
    go_wp2_with (first | (go_at_call 55; refine HV.out.mono ?_; rintro e w1 ⟨rfl, hb1⟩) | (go_at_call 56; refine (HA _ hb1).out.mono ?_; rintro e w2 ⟨rfl, hb2⟩))
    go_ret2
    exact ⟨none, 0, rfl, World.ownsRow_nil _ _ _ _, bl_call hb1 hb2⟩
  · obtain ⟨ho, h0, h9⟩ := ratE_ok.1 hv
    have HA := fun w' h => Lib.hid (agree_c A l cap r w' hlen (ho.fit h0 h9) (hr.later (w' := w') h))
    have HB := Lib.hid (fun w' h => boundsOf_c A l cap r w' ho h0 h9 (hr.later (w' := w') h))
    have HW := Lib.hid (fun k (hk : k < l.length) w' h => without_c A l cap k w' hlen hk (hr.later (w' := w') h))
    have HB2 := Lib.hid (fun k (hk : k < l.length) B c w' h => boundsOf_c B (dropK l k) c r w' (drop_ok ho hk h2) h0 h9 h)
    have HT := Lib.hid (fun k (h : k < l.length) => (⟨ho.t0 k h, ho.t1 k h⟩ : 0 ≤ tm l k ∧ tm l k ≤ 1000))
    have HEQ := Lib.hid (fun k (hk : k < l.length) D1 D2 => @need_equal l r k ho hk D1 D2)
    rw [hG, hv]
    rw [hv] at HV
    rw [h3] at HA
    have h2' : ((l.length : Int) == 1) = false := by rw [beq_eq_false_iff_ne]; omega
    have HNL : Hid (needL l r = needTo l r l.length) := rfl
    have HLEN := Lib.hid (need_len l r)
    have HNX := Lib.hid (need_next l r)
    generalize needL l r = res at HNL ⊢
    clear hG hv h2 h3 ho h0 h9
    go_enter Try.func43, Try.ntmps43
    go_wp2_with (first | (go_at_call 55; refine HV.out.mono ?_; rintro e w1 ⟨rfl, hb1⟩) | (go_at_call 56; refine (HA _ hb1).out.mono ?_; rintro e w2 ⟨rfl, hb2⟩))
    have hb12 := bl_call hb1 hb2
    clear hb1 hb2
    go_loopg [7, 28] l.length (fun gk v' iv wr => ∃ (k : Nat) (v : Value), v = v' ∧ Hid (k + gk = l.length) ∧ iv = .int .i64 (k : Int) ∧ wr.ownsRow w.heap.size 3 1 v (needTo l r k).length (ints (needTo l r k)) ∧ Below w.heap.size w wr)
    case atStart => exact ⟨0, _, rfl, by simp [Hid], rfl, World.ownsRow_nil _ _ _ _, hb12⟩
    case round =>
      obtain ⟨k, v, rfl, HK, rfl, hown, hb⟩ := hrel
      clear hb12
      rcases gk with _ | gi
      · obtain rfl : k = l.length := HK.out
        obtain ⟨A', c', rfl⟩ := own_form hown
        rw [← HNL.out] at hown
        go_wp2_with (fail)
        go_ret2
        exact ⟨A', c', by rw [← HNL.out]; rfl, hown, hb⟩
      · have hlt : k < l.length := by have := HK.out; omega
        have hlt' : (k : Int) < (l.length : Int) := by omega
        obtain ⟨q0, q1⟩ := HT.out k hlt
        obtain ⟨A1, c1', rfl⟩ := own_form hown
        obtain ⟨b', o, rfl, hbl, c0_, c1_, c2_⟩ := (hr.later hb).tri hlt
        have c0 : wr.cell? ⟨b', o + k * 3, none⟩ = some (.int .i64 (tm l k)) := c0_
        have c1 : wr.cell? ⟨b', o + k * 3 + 1, none⟩ = some (.int .i64 (lw l k)) := c1_
        have c2 : wr.cell? ⟨b', o + k * 3 + 2, none⟩ = some (.int .i64 (hg l k)) := c2_
        clear c0_ c1_ c2_
        obtain ⟨n1, n2⟩ := HNX.out k
        have N1 := Lib.hid n1
        have N2 := Lib.hid n2
        have hln := HLEN.out k
        have hkey := key_lit (t := tm l k) (by omega) (by omega)
        have HEQ2 := Lib.hid (HEQ.out k hlt)
        clear n1 n2
        generalize needTo l r k = M at *
        generalize needlessB l r k = nb at *
        generalize tm l k = T at *
        generalize lw l k = L at *
        generalize hg l k = H at *
        obtain ⟨W0, hW0⟩ : ∃ W0, W0 = wr.alloc (.cells #[.int .i64 T, .int .i64 L, .int .i64 H] 55) := ⟨_, rfl⟩
        have hbA : Below w.heap.size w W0 := by rw [hW0]; exact bl_alloc hb _
        have hoA : W0.ownsRow w.heap.size 3 1 (.slice A1 M.length c1') M.length (ints M) := by rw [hW0]; exact hown.alloc _
        have hvA : Bx W0 wr.heap.size 55 #[.int .i64 T, .int .i64 L, .int .i64 H] := by rw [hW0]; exact Bx.new _ _ _
        go_wp2_with (fail)
        rw [← hW0]
        clear hW0 c0 c1 c2 hown
        refine (HB.out W0 hbA).mono ?_
        rintro e w3 ⟨b3, D3, rfl, ho3, HH3, hbb3, hb3⟩
        have hb03 := bl_call hbA hb3
        obtain ⟨z0, _, _, _, _, _⟩ := (hvA.call hb3).three
        obtain ⟨w4, hdel, ho4, htu⟩ := World.ownsMap.drop ho3 intKey Try.underlying82 hkey 0
        have hg4 := htu.grown
        have hb34 : Below W0.heap.size W0 w4 := grown_bl hb3 hg4 hbb3
        have hb04 := bl_call hbA hb34
        have hoB := own_call hoA hb34
        have HH4 := Lib.hid (holds_del (t := T) HH3.out)
        clear htu hg4 hvA hb3 hb03 ho3
        go_wp2_with (fail)
        refine (HW.out k hlt w4 hb04).mono ?_
        rintro e w5 ⟨A5, c5, rfl, ho5, hb5⟩
        have hr5 := (own_rd ho5).1
        have hb05 := bl_call hb04 hb5
        go_wp2_with (fail)
        refine (HB2.out k hlt A5 c5 w5 hr5).mono ?_
        rintro e w6 ⟨b6, D6, rfl, ho6, HH6, hbb6, hb6⟩
        have ho46 := OwnM.call (OwnM.call ho4 hb5) hb6
        have hb06 := bl_call hb05 hb6
        have hoC := own_call (own_call hoB hb5) hb6
        have HQ := Lib.hid (HEQ2.out _ _ HH4.out HH6.out)
        have HC := Lib.hid (mapEqual_c b3 b6 _ _ _ D6 w6 ho46 ho6 _ _ HH4.out)
        clear ho4 ho46 ho6 hoA hoB HH3 HH4 HH6 hr5 ho5 HEQ2 hb5 hb6 hb34
        go_wp2_with (fail)
        refine HC.out.mono ?_
        rintro e w7 ⟨rfl, hb7⟩
        rw [HQ.out]
        have hb07 := bl_call hb06 hb7
        have hoD := own_call hoC hb7
        clear hoC HC HQ hb06 hb7 hb05 hb04 hbA
        rcases nb with _ | _
        · have HN := Lib.hid (N2.out rfl)
          clear N1 N2
          go_wp2_with (fail)
          go_roundg gi
          case rel => exact ⟨k + 1, _, rfl, by have := HK.out; show _ = _; omega, by go_num, by rw [HN.out]; exact hoD, hb07⟩
          case measure => omega
        · have HN := Lib.hid (N1.out rfl)
          clear N1 N2
          obtain ⟨A8, c8, W8, E8, ho8, hb8, _⟩ := append_int w.heap.size w7 _ M (k : Int) hoD (by omega) hb07.size
          have F8 := Lib.hid E8
          have hb08 := hb07.trans hb8
          clear E8 hb8 hoD
          go_wp2_with (at_builtin; refine wpList_append_eq rfl _ _ 50 rfl _ _ _ W8 rfl rfl F8.out ?_)
          go_roundg gi
          case rel => exact ⟨k + 1, _, rfl, by have := HK.out; show _ = _; omega, by go_num, by rw [HN.out]; exact ho8, hb08⟩
          case measure => omega
end Go.Proofs.Ytbbhaongakmhpaa
