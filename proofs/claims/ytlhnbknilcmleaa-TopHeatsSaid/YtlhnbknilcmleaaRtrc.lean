/- The document's Trace. -/
import Derived.Test.YtlhnbknilcmleaaTrc
import Derived.Test.YtlhnbknilcmleaaRhot
namespace Go.Proofs.Ytlhnbknilcmleaa
open Go.RowKit

def rowP (l : List T3) (k j : Nat) : List Int := (List.range j).map fun (i : Nat) => heatO (l.take (k + 1)) (i : Int)
theorem rowP_len (l : List T3) (k j : Nat) : (rowP l k j).length = j := by simp [rowP]
theorem rowP_succ (l : List T3) (k j : Nat) : rowP l k (j + 1) = rowP l k j ++ [heatO (l.take (k + 1)) (j : Int)] := by simp [rowP, List.range_succ]
theorem rowP_all (l : List T3) (k m : Nat) : rowP l k m = rowT m l k := rfl
theorem before_here {l : List T3} {k j : Nat} (hk : k < l.length) : heatO ((l.take (k + 1) ++ [((0 : Int), (j : Int), (0 : Int))]).take (k + 1)) ((l.take (k + 1) ++ [((0 : Int), (j : Int), (0 : Int))]).getD (k + 1) t0).2.1 = heatO (l.take (k + 1)) (j : Int) := by
  have hl : (l.take (k + 1)).length = k + 1 := by rw [List.length_take]; omega
  have e1 : (l.take (k + 1) ++ [((0 : Int), (j : Int), (0 : Int))]).take (k + 1) = l.take (k + 1) := by rw [List.take_append_of_le_length (by omega), List.take_take, Nat.min_self]
  have e2 : (l.take (k + 1) ++ [((0 : Int), (j : Int), (0 : Int))]).getD (k + 1) t0 = (0, (j : Int), 0) := by
    rw [List.getD_eq_getElem?_getD, List.getElem?_append_right (by omega), hl, Nat.sub_self]; rfl
  rw [e1, e2]

set_option maxRecDepth 100000 in
set_option maxHeartbeats 4000000 in
theorem rTrace_c (n : Int) (A : Option Addr) (l : List T3) (c : Nat) (w : World) (hlen : l.length ≤ 1000) (hcap : l.length ≤ c) (hr : Rd w A (cellsT l)) :
    Calls Try.prog 21 #[.int .i64 n, .slice A l.length c] w (OutTab (traceG n l) (validE n l) w) := by
  have HV := Lib.hid (rvalidate_c n A l c w hlen hr)
  by_cases hv : validE n l = 0
  · have ha := validE_acts hv
    obtain ⟨hn1, hn4⟩ := (validE_zero.1 hv).1
    have h20 := (validE_zero.1 hv).2.1
    have HB : traceG n l = rowsT n.toNat l l.length := by rw [traceG, if_pos hv]
    rw [hv] at HV
    rw [hv, HB]
    clear HB hv
    obtain ⟨m, rfl⟩ : ∃ m : Nat, n = m := ⟨n.toNat, by omega⟩
    rw [Int.toNat_natCast]
    have hm4 : m ≤ 4 := by omega
    obtain ⟨i0, hi, hz0, hz1, hz2⟩ := info_parts act_info
    obtain ⟨i1, hi', hz0', hz1', hz2'⟩ := info_parts slice_info
    go_enter Try.func21, Try.ntmps21
    go_wp2_with (go_at_call 25; refine HV.out.mono ?_; rintro e w1 ⟨rfl, hb1⟩)
    go_loopg [7, 8] l.length (fun gk v iv wr => ∃ k : Nat, Hid (k + gk = l.length) ∧ iv = .int .i64 (k : Int) ∧ Below w.heap.size w wr ∧ ∃ hs, Tab wr w.heap.size hs (rowsT m l k) ∧ wr.ownsRow w.heap.size 34 1 v k hs)
    case atStart => exact ⟨0, by simp [Hid], rfl, hb1, [], Tab.nil _ _, World.ownsRow_nil _ _ _ _⟩
    case round =>
      obtain ⟨k, HK, rfl, hb, hs, htab, hown⟩ := hrel
      obtain ⟨At, ct, rfl⟩ := own_form hown
      rcases gk with _ | gi
      · obtain rfl : k = l.length := HK.out
        have hrd := (own_rd hown).1
        have HL := Lib.hid (rowsT_len m l l.length)
        go_wp2_with (fail)
        go_ret2
        exact ⟨At, ct, hs, by rw [HL.out]; rfl, hrd, ⟨_, htab⟩, hb⟩
      · have hkl : k < l.length := by have := HK.out; omega
        have hkl' : (k : Int) < (l.length : Int) := by omega
        go_wp2_with (fail)
        obtain ⟨wo, rfl⟩ : ∃ wo, wo = wr := ⟨_, rfl⟩
        go_loopg [9, 10] m (fun gj hv jv wr => ∃ j : Nat, Hid (j + gj = m) ∧ jv = .int .i64 (j : Int) ∧ wr.ownsRow wo.heap.size 3 1 hv j (ints (rowP l k j)) ∧ Below wo.heap.size wo wr)
        case atStart => exact ⟨0, by simp [Hid], rfl, World.ownsRow_nil _ _ _ _, Below.refl _ _⟩
        case round =>
          obtain ⟨j, HJ, rfl, hrow, hbo⟩ := hrel
          have hb2 := bl_call hb hbo
          obtain ⟨Ah, ch, rfl⟩ := own_form hrow
          rcases gk with _ | gi2
          · obtain rfl : j = m := HJ.out
            rw [rowP_all] at hrow
            have hrow := own_base hrow hb.size
            have htab2 := htab.call hbo
            have hown2 := own_call hown hbo
            have HS := Lib.hid (rowsT_succ j l k)
            have HRL := Lib.hid (rowT_len j l k)
            have hb3 := bl_alloc hb2 (.cells #[.slice Ah j ch] 34)
            have hal := bl_alloc (Below.refl wr.heap.size wr) (.cells #[.slice Ah j ch] 34)
            have hlit : Rd (wr.alloc (.cells #[.slice Ah j ch] 34)) (some ⟨wr.heap.size, 0, none⟩) [.slice Ah j ch] := Bx.rd (Bx.new wr _ _)
            have hown3 := own_call hown2 hal
            obtain ⟨A5, c5, w5, hrun, ho5, hg5⟩ := run_append_rows (P := Try.prog) _ w.heap.size 25 34 i1 _ 1 24 Try.underlying25 hi' hz0' hz1' hz2' rfl (by decide) _ k hs hown3 (some ⟨wr.heap.size, 0, none⟩) 1 1 [.slice Ah j ch] rfl (by intro u hu; rw [List.mem_singleton.1 hu]; rfl) hlit (by unfold maxLen; omega) (by omega) hb3.size
            have E5 := Lib.hid hrun
            have htab3 := (htab2.call hal).snoc (l := rowT j l k) (A := Ah) (c := ch) (by rw [HRL.out]; exact own_call hrow hal)
            have htab4 := htab3.grown hown3 (by decide) hg5
            have hb5 := Lib.hid (hb3.trans (grown_below hown3 hg5 hb3.size))
            have HT := Lib.hid htab4
            have HO := Lib.hid ho5
            clear hrun hg5 ho5 htab3 htab4 hown3 hlit htab2 hown2 hrow htab hown
            go_wp2_with (at_builtin; refine wpList_append_eq rfl _ _ 25 rfl _ _ _ w5 rfl rfl E5.out ?_)
            go_roundg gi
            case rel => exact ⟨k + 1, by have := HK.out; show _ = _; omega, by go_num, hb5.out, hs ++ [.slice Ah j ch], by rw [HS.out]; have h := HT.out; rw [HRL.out] at h; exact h, HO.out⟩
            case measure => omega
          · have hjm : j < m := by have := HJ.out; omega
            have hjm' : (j : Int) < (m : Int) := by omega
            have hrr := hr.later hb2
            obtain ⟨b, o, rfl, hbl, _, _, _⟩ := hrr.tri hkl
            have hP : (l.take (k + 1)).length = k + 1 := by rw [List.length_take]; omega
            have hbef := before_here (l := l) (k := k) (j := j) hkl
            have HRS := Lib.hid (rowP_succ l k j)
            have haQ : Acts (l.take (k + 1) ++ [((0 : Int), (j : Int), (0 : Int))]) := (ha.take _).app (acts_one ⟨by simp, by simp, by simp, by simp; omega, by simp, by simp, fun h => rfl⟩)
            have hb3 : Below wr.heap.size wr (wr.alloc (.cells #[] 61)) := bl_alloc (Below.refl _ _) _
            have ho3 : (wr.alloc (.cells #[] 61)).ownsRow wr.heap.size 61 3 (.slice (some ⟨wr.heap.size, 0, none⟩) 0 0) 0 (cellsT []) := World.ownsRow_made (e := 61) (size := 3) wr #[] 0 (Nat.le_refl _) (by decide) rfl
            obtain ⟨A4, c4, w4, hrun, ho4, hg4⟩ := run_append_rows (P := Try.prog) (wr.alloc (.cells #[] 61)) wr.heap.size 22 61 i0 _ 3 24 Try.underlying22 hi hz0 hz1 hz2 rfl (by decide) _ 0 (cellsT []) ho3 (some ⟨b, o, none⟩) (k + 1) c (cellsT (l.take (k + 1))) (by rw [cellsT_length, hP]) (cellsT_one _) ((hrr.taken (k + 1)).later hb3) (by unfold maxLen; omega) (by omega) hb3.size
            have E4 := Lib.hid hrun
            have hb4 : Below wr.heap.size wr w4 := hb3.trans (grown_below ho3 hg4 hb3.size)
            try simp only [Nat.zero_add] at ho4 E4
            have ho4' : w4.ownsRow wr.heap.size 61 3 (.slice A4 (k + 1) c4) (l.take (k + 1)).length (cellsT (l.take (k + 1))) := by rw [hP]; exact ho4
            obtain ⟨A5, c5, w5, E5, ho5, hb5, _⟩ := append_three wr.heap.size 22 61 act_info Try.underlying22 w4 _ (l.take (k + 1)) (0, (j : Int), 0) ho4' (by rw [hP]; omega) hb4.size
            have hQl : (l.take (k + 1) ++ [((0 : Int), (j : Int), (0 : Int))]).length = k + 1 + 1 := by rw [List.length_append, hP]; rfl
            rw [hP] at E5
            have HE5 := Lib.hid E5
            rw [hQl, hP] at ho5
            have hrd5 := (own_rd ho5).1
            have HBf := rbefore_c A5 (l.take (k + 1) ++ [((0 : Int), (j : Int), (0 : Int))]) c5 (k + 1) w5 (by rw [hQl]; omega) haQ (by rw [hQl]; omega) hrd5
            rw [hbef, hQl] at HBf
            have hcast : ((k + 1 : Nat) : Int) = (k : Int) + 1 := by omega
            rw [hcast] at HBf
            have HBf := Lib.hid HBf
            have hb25 := hb4.trans hb5
            have hrowl := Lib.hid (rowP_len l k j)
            have hPl := Lib.hid hP
            clear hrun hg4 ho3 hb3 ho4 ho4' E5 ho5 hrd5 hb5 hb4 haQ hbef hQl hP hcast
            go_wp2_with (first | (at_builtin; refine wpList_append_eq rfl _ _ 22 rfl _ _ _ w4 rfl rfl E4.out ?_) | (at_builtin; refine wpList_append_eq rfl _ _ 22 rfl _ _ _ w5 rfl rfl HE5.out ?_))
            refine HBf.out.mono ?_
            rintro e w6 ⟨rfl, hb6⟩
            have hb26 := bl_call hb25 hb6
            obtain ⟨A7, c7, w7, E7, ho7, hb7, _⟩ := append_int wo.heap.size w6 (.slice Ah j ch) (rowP l k j) (heatO (l.take (k + 1)) (j : Int)) (by rw [hrowl.out]; exact own_call hrow hb26) (by rw [hrowl.out]; omega) (bl_call hbo hb26).size
            rw [hrowl.out] at E7
            have HE7 := Lib.hid E7
            have hb27 := (bl_call hbo hb26).trans hb7
            have HO7 := Lib.hid ho7
            clear E7 ho7
            go_wp2_with (at_builtin; refine wpList_append_eq rfl _ _ 34 rfl _ _ _ w7 rfl rfl HE7.out ?_)
            go_roundg gi2
            case rel => exact ⟨j + 1, by have := HJ.out; show _ = _; omega, by go_num, by rw [HRS.out]; have h := HO7.out; rw [List.length_append, hrowl.out] at h; exact h, hb27⟩
            case measure => omega
  · have HB : traceG n l = [] := by rw [traceG, if_neg hv]
    have hv' : (validE n l != 0) = true := by simpa using hv
    rw [HB]
    clear HB
    generalize validE n l = ev at *
    go_enter Try.func21, Try.ntmps21
    go_wp2_with (go_at_call 25; refine HV.out.mono ?_; rintro e w1 ⟨rfl, hb1⟩)
    go_ret2
    exact ⟨none, 0, [], rfl, .inl rfl, ⟨0, Tab.nil _ _⟩, hb1⟩
end Go.Proofs.Ytlhnbknilcmleaa
