/- Whether a list has something twice, by a map of what was seen. -/
import Derived.Test.YtjgpfnnokdcgoaaBase
namespace Go.Proofs.Ytjgpfnnokdcgoaa
open Go.RowKit Go.Maps

/-- No element twice. -/
def onceB {α : Type} [DecidableEq α] (l : List α) : Bool := decide l.Nodup
theorem once_snoc {α : Type} [DecidableEq α] {l : List α} {k : Nat} (h : k < l.length) (d : α) : onceB (l.take (k + 1)) = (onceB (l.take k) && !decide (l.getD k d ∈ l.take k)) := by
  have e : l.take (k + 1) = l.take k ++ [l.getD k d] := by rw [List.take_succ_eq_append_getElem h]; simp [h]
  rw [e, onceB, onceB, Bool.eq_iff_iff]
  simp only [decide_eq_true_eq, Bool.and_eq_true, Bool.not_eq_true', decide_eq_false_iff_not, List.nodup_append, List.mem_singleton]
  constructor
  · rintro ⟨h1, _, h3⟩
    exact ⟨h1, fun hm => h3 _ hm _ rfl rfl⟩
  · rintro ⟨h1, h2⟩
    exact ⟨h1, by simp, fun a ha b hb => by rw [hb]; rintro rfl; exact h2 ha⟩
theorem once_twice {α : Type} [DecidableEq α] {l : List α} {k : Nat} (h : k < l.length) (d : α) (hm : l.getD k d ∈ l.take k) : onceB l = false := by
  have h1 := once_snoc h d
  rw [decide_eq_true hm] at h1
  simp only [Bool.not_true, Bool.and_false] at h1
  cases hb : onceB l with
  | false => rfl
  | true =>
    have : onceB (l.take (k + 1)) = true := by
      rw [onceB, decide_eq_true_eq] at hb ⊢
      exact hb.sublist (List.take_sublist _ _)
    rw [this] at h1; cases h1

theorem Rd.pair {w : World} {A : Option Addr} {l : List (Int × Int)} (h : Rd w A (cellsP l)) {k : Nat} (hk : k < l.length) : ∃ b o, A = some ⟨b, o, none⟩ ∧ b < w.heap.size ∧
    w.cell? ⟨b, o + k * 2, none⟩ = some (.int .i64 (l.getD k (0, 0)).1) ∧ w.cell? ⟨b, o + k * 2 + 1, none⟩ = some (.int .i64 (l.getD k (0, 0)).2) := by
  obtain ⟨b, o, rfl, hb, hc⟩ := h.at_ (k := k * 2) (by simp; omega)
  obtain ⟨h0, h1⟩ := cellsP_get l k hk
  exact ⟨b, o, rfl, hb, hc _ _ h0, by rw [Nat.add_assoc]; exact hc _ _ h1⟩

set_option maxRecDepth 100000 in
set_option maxHeartbeats 2000000 in
theorem twiceLinks_c (A : Option Addr) (l : List (Int × Int)) (c : Nat) (w : World) (hlen : l.length ≤ 1000) (hl : ∀ x ∈ l, (0 ≤ x.1 ∧ x.1 < 1000) ∧ 0 ≤ x.2 ∧ x.2 < 1000) (hr : Rd w A (cellsP l)) :
    Calls Try.prog 63 #[.slice A l.length c] w fun e w' => e = .returned (.bool (!onceB l)) ∧ Below w.heap.size w w' := by
  have hmm := @run_makeMap Try.prog
  have hb0 : Below w.heap.size w (w.alloc (.map #[] 0)) := bl_alloc (Below.refl _ _) _
  have hs0 := seen_made Try.prog 69 4 w
  go_enter Try.func63, Try.ntmps63
  go_wp2_with (fail)
  go_loopg [9] l.length (fun gk iv wr => ∃ k : Nat, Hid (k + gk = l.length) ∧ iv = .int .i64 (k : Int) ∧ Seen Try.prog 69 4 wr w.heap.size k (memV encP (l.take k)) ∧ Hid (onceB (l.take k) = true) ∧ Below w.heap.size w wr)
  case atStart => exact ⟨0, by simp [Hid], rfl, by rw [List.take_zero, memV_nil]; exact hs0, by simp [Hid, onceB], hb0⟩
  case round =>
    obtain ⟨k, HK, rfl, hS, HO, hb⟩ := hrel
    rcases gk with _ | gi
    · obtain rfl : k = l.length := HK.out
      have hO := HO.out
      rw [List.take_length] at hO
      have HO2 := Lib.hid hO
      clear hO
      go_wp2_with (fail)
      go_ret
      exact ⟨by rw [HO2.out]; rfl, hb⟩
    · have hkl : k < l.length := by have h := HK.out; omega
      have hkl' : (k : Int) < (l.length : Int) := by omega
      obtain ⟨b, o, rfl, hbl, c0, c1⟩ := (hr.later hb).pair hkl
      have HN := Lib.hid (once_snoc hkl ((0 : Int), (0 : Int)))
      have HTw := Lib.hid (fun h => @once_twice _ _ l k hkl ((0 : Int), (0 : Int)) h)
      have HT : Hid (l.take (k + 1) = l.take k ++ [l.getD k (0, 0)]) := by show _ = _; rw [List.take_succ_eq_append_getElem hkl]; simp [hkl]
      have hkey : (0 ≤ (l.getD k (0, 0)).1 ∧ (l.getD k (0, 0)).1 < 1000) ∧ 0 ≤ (l.getD k (0, 0)).2 ∧ (l.getD k (0, 0)).2 < 1000 := hl _ (by simp [hkl])
      generalize l.getD k (0, 0) = x at *
      obtain ⟨xa, xb⟩ := x
      simp only [] at c0 c1
      obtain ⟨⟨y0, y1⟩, y2, y3⟩ := hkey
      have HKY := Lib.hid (link_key y0 y1 y2 y3)
      have hB1 := bl_alloc hb (.cells #[.int .i64 xa, .int .i64 xb] 69)
      have hS1 := hS.alloc (.cells #[.int .i64 xa, .int .i64 xb] 69)
      clear y0 y1 y2 y3
      by_cases hm : (xa, xb) ∈ l.take k
      · have hV : memV encP (l.take k) (.agg #[.int .i64 xa, .int .i64 xb]) = true := memV_yes (enc := encP) encP_inj hm
        have hO2 := Lib.hid (HTw.out hm)
        clear HN HTw HT hm
        go_wp2_with (at_lookup; refine wpList_lookup_seen _ rfl _ _ 111 rfl link_law Try.underlying111 Try.underlying4 (zero_bool _) w.heap.size k (memV encP (l.take k)) rfl hS1 (.agg #[.int .i64 xa, .int .i64 xb]) rfl HKY.out true hV ?_)
        go_ret
        exact ⟨by rw [hO2.out]; rfl, hB1⟩
      · have hV : memV encP (l.take k) (.agg #[.int .i64 xa, .int .i64 xb]) = false := memV_no (enc := encP) encP_inj hm
        have HO2 : Hid (onceB (l.take (k + 1)) = true) := by show _ = _; rw [HN.out, HO.out]; simp [hm]
        have HV2 : Hid (∀ v, v ≠ (.agg #[.int .i64 xa, .int .i64 xb] : Value) → memV encP (l.take (k + 1)) v = memV encP (l.take k) v) := fun v hv => by rw [HT.out]; exact memV_old _ _ hv
        have HV3 : Hid (memV encP (l.take (k + 1)) (.agg #[.int .i64 xa, .int .i64 xb]) = true) := by show _ = _; rw [HT.out]; exact memV_new encP (l.take k) (xa, xb)
        clear HN HTw HT hm
        go_wp2_with (first
          | (at_lookup; refine wpList_lookup_seen _ rfl _ _ 111 rfl link_law Try.underlying111 Try.underlying4 (zero_bool _) w.heap.size k (memV encP (l.take k)) rfl hS1 (.agg #[.int .i64 xa, .int .i64 xb]) rfl HKY.out false hV ?_)
          | (at_mapUpdate; refine wpList_mapUpdate_seen _ rfl _ _ _ 111 rfl link_law Try.underlying111 Try.underlying4 w.heap.size k (memV encP (l.take k)) (memV encP (l.take (k + 1))) rfl hS1 (by unfold maxLen; omega) (.agg #[.int .i64 xa, .int .i64 xb]) rfl rfl HKY.out HV3.out HV2.out ?_; intro w2 hS2 hg2))
        have hB2 : Below w.heap.size w w2 := hB1.grown hg2 hB1.size (fun j hj => by cases hj; exact Nat.le_refl _)
        go_roundg gi
        case rel => exact ⟨k + 1, by have h := HK.out; show _ = _; omega, by go_num, hS2, HO2, hB2⟩
        case measure => omega
set_option maxRecDepth 100000 in
set_option maxHeartbeats 2000000 in
theorem twiceInts_c (A : Option Addr) (l : List Int) (c : Nat) (w : World) (hlen : l.length ≤ 1000) (hl : ∀ x ∈ l, 0 ≤ x ∧ x < 1000) (hr : Rd w A (ints l)) :
    Calls Try.prog 65 #[.slice A l.length c] w fun e w' => e = .returned (.bool (!onceB l)) ∧ Below w.heap.size w w' := by
  have hmm := @run_makeMap Try.prog
  have hb0 : Below w.heap.size w (w.alloc (.map #[] 0)) := bl_alloc (Below.refl _ _) _
  have hs0 := seen_made Try.prog 3 4 w
  go_enter Try.func65, Try.ntmps65
  go_wp2_with (fail)
  go_loopg [9] l.length (fun gk iv wr => ∃ k : Nat, Hid (k + gk = l.length) ∧ iv = .int .i64 (k : Int) ∧ Seen Try.prog 3 4 wr w.heap.size k (memV encI (l.take k)) ∧ Hid (onceB (l.take k) = true) ∧ Below w.heap.size w wr)
  case atStart => exact ⟨0, by simp [Hid], rfl, by rw [List.take_zero, memV_nil]; exact hs0, by simp [Hid, onceB], hb0⟩
  case round =>
    obtain ⟨k, HK, rfl, hS, HO, hb⟩ := hrel
    rcases gk with _ | gi
    · obtain rfl : k = l.length := HK.out
      have hO := HO.out
      rw [List.take_length] at hO
      have HO2 := Lib.hid hO
      clear hO
      go_wp2_with (fail)
      go_ret
      exact ⟨by rw [HO2.out]; rfl, hb⟩
    · have hkl : k < l.length := by have h := HK.out; omega
      have hkl' : (k : Int) < (l.length : Int) := by omega
      obtain ⟨b, o, rfl, hbl, hc⟩ := (hr.later hb).at_ (k := k) (by simpa using hkl)
      have c0 := hc k _ (ints_get hkl)
      clear hc
      have HN := Lib.hid (once_snoc hkl (0 : Int))
      have HTw := Lib.hid (fun h => @once_twice _ _ l k hkl (0 : Int) h)
      have HT : Hid (l.take (k + 1) = l.take k ++ [l.getD k 0]) := by show _ = _; rw [List.take_succ_eq_append_getElem hkl]; simp [hkl]
      have hkey : 0 ≤ l.getD k 0 ∧ l.getD k 0 < 1000 := hl _ (by simp [hkl])
      generalize l.getD k 0 = x at *
      obtain ⟨y0, y1⟩ := hkey
      have HKY := Lib.hid (int_key y0 y1)
      clear y0 y1
      by_cases hm : x ∈ l.take k
      · have hV : memV encI (l.take k) (.int .i64 x) = true := memV_yes (enc := encI) encI_inj hm
        have hO2 := Lib.hid (HTw.out hm)
        clear HN HTw HT hm
        go_wp2_with (at_lookup; refine wpList_lookup_seen _ rfl _ _ 112 rfl int_law Try.underlying112 Try.underlying4 (zero_bool _) w.heap.size k (memV encI (l.take k)) rfl hS (.int .i64 x) rfl HKY.out true hV ?_)
        go_ret
        exact ⟨by rw [hO2.out]; rfl, hb⟩
      · have hV : memV encI (l.take k) (.int .i64 x) = false := memV_no (enc := encI) encI_inj hm
        have HO2 : Hid (onceB (l.take (k + 1)) = true) := by show _ = _; rw [HN.out, HO.out]; simp [hm]
        have HV2 : Hid (∀ v, v ≠ (.int .i64 x : Value) → memV encI (l.take (k + 1)) v = memV encI (l.take k) v) := fun v hv => by rw [HT.out]; exact memV_old _ _ hv
        have HV3 : Hid (memV encI (l.take (k + 1)) (.int .i64 x) = true) := by show _ = _; rw [HT.out]; exact memV_new encI (l.take k) x
        clear HN HTw HT hm
        go_wp2_with (first
          | (at_lookup; refine wpList_lookup_seen _ rfl _ _ 112 rfl int_law Try.underlying112 Try.underlying4 (zero_bool _) w.heap.size k (memV encI (l.take k)) rfl hS (.int .i64 x) rfl HKY.out false hV ?_)
          | (at_mapUpdate; refine wpList_mapUpdate_seen _ rfl _ _ _ 112 rfl int_law Try.underlying112 Try.underlying4 w.heap.size k (memV encI (l.take k)) (memV encI (l.take (k + 1))) rfl hS (by unfold maxLen; omega) (.int .i64 x) rfl rfl HKY.out HV3.out HV2.out ?_; intro w2 hS2 hg2))
        have hB2 : Below w.heap.size w w2 := hb.grown hg2 hb.size (fun j hj => by cases hj; exact Nat.le_refl _)
        go_roundg gi
        case rel => exact ⟨k + 1, by have h := HK.out; show _ = _; omega, by go_num, hS2, HO2, hB2⟩
        case measure => omega
end Go.Proofs.Ytjgpfnnokdcgoaa
