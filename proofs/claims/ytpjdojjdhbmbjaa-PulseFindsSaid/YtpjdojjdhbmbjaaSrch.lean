/- Searches: the document's and the program's pulses are the same. Which are all zeros. Mathematics, and the document's examination of the arguments. -/
import Derived.Test.YtpjdojjdhbmbjaaAll
import Derived.Test.YtpjdojjdhbmbjaaChk
import Derived.Test.YtpjdojjdhbmbjaaShort
import Derived.Test.YtpjdojjdhbmbjaaDelaysW
namespace Go.Proofs.Ytpjdojjdhbmbjaa
open Go.RowKit

theorem modes_in {l : List Int} (h : areModesL l = true) : ∀ m ∈ l, 0 ≤ m ∧ m ≤ 3 := by
  intro m hm
  obtain ⟨k, hk, rfl⟩ := List.getElem_of_mem hm
  simp only [areModesL, Bool.and_eq_true, isSetL, List.all_eq_true, List.mem_range] at h
  have := h.2 k hk
  simp only [setOk, Bool.and_eq_true, List.getD_eq_getElem?_getD, List.getElem?_eq_getElem hk, Option.getD_some] at this
  exact inB_z.1 this.1
theorem pAt_force (f : Nat) : ∀ n i k, -(f : Int) ≤ (pAt f n i).getD k 0 ∧ (pAt f n i).getD k 0 ≤ f
  | 0, i, k => by simp [pAt]
  | n + 1, i, k => by
    have hm := Nat.mod_lt i (show 0 < 2 * f + 1 by omega)
    have hl := pAt_len f n (i / (2 * f + 1))
    rcases Nat.lt_or_ge k n with h | h
    · have e : (pAt f (n + 1) i).getD k 0 = (pAt f n (i / (2 * f + 1))).getD k 0 := by
        simp only [pAt, List.getD_eq_getElem?_getD, List.getElem?_append]; rw [if_pos (by omega)]
      rw [e]; exact pAt_force f n _ k
    · rcases Nat.lt_or_ge n k with h' | h'
      · have e : (pAt f (n + 1) i).getD k 0 = 0 := by
          rw [List.getD_eq_getElem?_getD, List.getElem?_eq_none (by rw [pAt_len]; omega)]; rfl
        rw [e]; omega
      · have hk : k = n := by omega
        have e : (pAt f (n + 1) i).getD k 0 = -(f : Int) + (i % (2 * f + 1) : Nat) := by
          simp only [pAt, List.getD_eq_getElem?_getD, List.getElem?_append]; rw [if_neg (by omega), hl, hk]; simp
        rw [e]; omega
theorem pulses_at {f n : Nat} {x : List Int} (h : x ∈ pulsesL f n) : ∃ i, i < (2 * f + 1) ^ n ∧ x = pAt f n i := by
  simp only [pulsesL, List.mem_map, List.mem_range] at h
  obtain ⟨i, hi, rfl⟩ := h
  exact ⟨i, hi, rfl⟩
theorem ok_pulse {f n : Nat} {x : List Int} (h : x ∈ pulsesL f n) (hn : n ≤ 6) (hf : f ≤ 2) {m : Int} (hm : 0 ≤ m ∧ m ≤ 3) : Ok x m := by
  obtain ⟨i, _, rfl⟩ := pulses_at h
  exact ⟨by rw [pAt_len]; omega, hm, fun k => by have := pAt_force f n i k; omega⟩
theorem closed_all_same {l : List Int} (hl : areModesL l = true) {f n : Nat} (hn : n ≤ 6) (hf : f ≤ 2) {x : List Int} (h : x ∈ pulsesL f n) : closedAllB x l = closedAllR x l := by
  unfold closedAllB closedAllR
  have hx : ∀ m ∈ l, closedB x m = (endR m x == (0, 0)) := fun m hm => by rw [closedB, end_same (ok_pulse h hn hf (modes_in hl m hm))]
  rw [Bool.eq_iff_iff, List.all_eq_true, List.all_eq_true]
  exact ⟨fun h m hm => by rw [← hx m hm]; exact h m hm, fun h m hm => by rw [hx m hm]; exact h m hm⟩
theorem closedL_R {l : List Int} (hl : areModesL l = true) {f n : Nat} (hn : n ≤ 6) (hf : f ≤ 2) : closedL l f n = (pulsesL f n).filter (fun x => closedAllR x l) :=
  List.filter_congr fun _ hx => closed_all_same hl hn hf hx

/-! The pulse of zeros. -/
theorem pAt_inj (f : Nat) : ∀ n i j, i < (2 * f + 1) ^ n → j < (2 * f + 1) ^ n → pAt f n i = pAt f n j → i = j
  | 0, i, j, hi, hj, _ => by simp at hi hj; omega
  | n + 1, i, j, hi, hj, h => by
    have hb : 0 < 2 * f + 1 := by omega
    obtain ⟨h1, h2⟩ := List.append_inj h (by rw [pAt_len, pAt_len])
    have h3 : i % (2 * f + 1) = j % (2 * f + 1) := by injection h2 with h2; omega
    rw [Nat.pow_succ] at hi hj
    have h4 := pAt_inj f n _ _ ((Nat.div_lt_iff_lt_mul hb).2 hi) ((Nat.div_lt_iff_lt_mul hb).2 hj) h1
    rw [← Nat.div_add_mod i (2 * f + 1), ← Nat.div_add_mod j (2 * f + 1), h3, h4]
theorem pulses_nodup (f n : Nat) : (pulsesL f n).Nodup := by
  rw [List.nodup_iff_pairwise_ne, pulsesL, List.pairwise_map]
  refine List.Pairwise.imp_of_mem (fun {a b} ha hb hab h => ?_) List.pairwise_lt_range
  rw [List.mem_range] at ha hb
  exact absurd (pAt_inj f n a b ha hb h) (by omega)
theorem zero_at (f : Nat) : ∀ n, ∃ i, i < (2 * f + 1) ^ n ∧ pAt f n i = List.replicate n 0
  | 0 => ⟨0, by simp, rfl⟩
  | n + 1 => by
    obtain ⟨i, hi, he⟩ := zero_at f n
    refine ⟨i * (2 * f + 1) + f, ?_, ?_⟩
    · rw [Nat.pow_succ]
      have : (i + 1) * (2 * f + 1) ≤ (2 * f + 1) ^ n * (2 * f + 1) := Nat.mul_le_mul_right _ (by omega)
      rw [Nat.add_mul, Nat.one_mul] at this
      omega
    · rw [pAt_row f n i f (by omega), he, List.replicate_succ']
      congr 2; omega
theorem zero_mem (f n : Nat) : List.replicate n 0 ∈ pulsesL f n := by
  obtain ⟨i, hi, he⟩ := zero_at f n
  rw [← he]; exact List.mem_map.2 ⟨i, List.mem_range.2 hi, rfl⟩
theorem zero_closed (n : Nat) (m : Int) : closedB (List.replicate n 0) m = true := by
  have h := (x_first m n [] n (Nat.le_refl _)).1
  rw [List.append_nil] at h
  rw [closedB_z, List.length_replicate, show (List.replicate n (0 : Int)) = sameRow n 0 from rfl, h]; simp [W2, wrap64]
theorem zero_in (l : List Int) (f n : Nat) : List.replicate n 0 ∈ closedL l f n :=
  List.mem_filter.2 ⟨zero_mem f n, by rw [closedAllB, List.all_eq_true]; exact fun m _ => zero_closed n m⟩
theorem push_zero {x : List Int} : pushB x = false → x = List.replicate x.length 0 := by
  intro h
  rw [pushB, List.any_eq_false] at h
  exact List.eq_replicate_iff.2 ⟨rfl, fun b hb => by simpa using h b hb⟩
theorem push_rep (n : Nat) : pushB (List.replicate n 0) = false := by
  rw [pushB, List.any_eq_false]
  intro x hx
  rw [List.eq_of_mem_replicate hx]; simp
/-- There is a closed pulse that is not all zeros exactly if there is more than one. -/
theorem push_count (l : List Int) (f n : Nat) : (closedL l f n).any pushB = decide (1 < (closedL l f n).length) := by
  have hnd : (closedL l f n).Nodup := (pulses_nodup f n).sublist (List.filter_sublist)
  have hz := zero_in l f n
  have hlen : ∀ x ∈ closedL l f n, x.length = n := fun x hx => pulses_len (List.mem_filter.1 hx).1
  generalize closedL l f n = L at hnd hz hlen
  rw [Bool.eq_iff_iff, List.any_eq_true, decide_eq_true_iff]
  constructor
  · rintro ⟨x, hx, hp⟩
    match L, hnd, hz, hx with
    | [a], _, hz, hx =>
      rw [List.mem_singleton] at hz hx
      rw [hx, ← hz, push_rep] at hp; cases hp
    | a :: b :: t, _, _, _ => simp
  · intro h
    match L, hnd, hlen, h with
    | a :: b :: t, hnd, hlen, _ =>
      by_cases ha : pushB a = true
      · exact ⟨a, by simp, ha⟩
      · refine ⟨b, by simp, ?_⟩
        cases hb : pushB b with
        | true => rfl
        | false =>
          have e1 := push_zero (by simpa using ha : pushB a = false)
          have e2 := push_zero hb
          rw [hlen a (by simp)] at e1
          rw [hlen b (by simp)] at e2
          rw [e1, e2] at hnd
          simp at hnd

theorem search_zero (l : List Int) (f : Int) : searchE l 0 f = searchE l 1 f := by
  unfold searchE
  rw [show inB 0 0 6 = true from rfl, show inB 1 0 6 = true from rfl]

theorem searched_c (A : Option Addr) (l : List Int) (cap : Nat) (n f : Int) (w : World) (hlen : l.length ≤ 9223372036854775806) (hr : Rd w A (ints l)) :
    Calls Try.prog 83 #[.slice A l.length cap, .int .i64 n, .int .i64 f] w fun e w' => e = .returned (.int .i64 (searchE l n f)) ∧ Below w.heap.size w w' := by
  have h1 := rareModes_c A l cap w hlen hr
  have HE : Hid (searchE l n f = if areModesL l && inB n 0 6 && inB f 1 2 then 0 else 1) := rfl
  generalize areModesL l = m at h1 HE
  have H1 := Lib.hid h1
  clear h1
  have HN := fun w => Lib.hid (within_c n 0 6 w)
  have HF := fun w => Lib.hid (within_c f 1 2 w)
  generalize inB n 0 6 = b at HE HN
  generalize inB f 1 2 = c at HE HF
  cases m with
  | false =>
    go_enter Try.func83, Try.ntmps83
    go_wp2_with (go_at_call 77; refine H1.out.mono ?_; rintro e w' ⟨rfl, hb1⟩)
    go_ret
    exact ⟨ret_i (by rw [HE.out]; simp), hb1⟩
  | true =>
    cases b with
    | false =>
      go_enter Try.func83, Try.ntmps83
      go_wp2_with (go_at_call 77; refine H1.out.mono ?_; rintro e w' ⟨rfl, hb1⟩)
      refine (HN _).out.mono ?_
      rintro e w' ⟨rfl, rfl⟩
      go_wp2_with (fail)
      go_ret
      exact ⟨ret_i (by rw [HE.out]; simp), hb1⟩
    | true =>
      cases c with
      | false =>
        go_enter Try.func83, Try.ntmps83
        go_wp2_with (go_at_call 77; refine H1.out.mono ?_; rintro e w' ⟨rfl, hb1⟩)
        refine (HN _).out.mono ?_
        rintro e w' ⟨rfl, rfl⟩
        go_wp2_with (fail)
        refine (HF _).out.mono ?_
        rintro e w' ⟨rfl, rfl⟩
        go_wp2_with (fail)
        go_ret
        exact ⟨ret_i (by rw [HE.out]; simp), hb1⟩
      | true =>
        go_enter Try.func83, Try.ntmps83
        go_wp2_with (go_at_call 77; refine H1.out.mono ?_; rintro e w' ⟨rfl, hb1⟩)
        refine (HN _).out.mono ?_
        rintro e w' ⟨rfl, rfl⟩
        go_wp2_with (fail)
        refine (HF _).out.mono ?_
        rintro e w' ⟨rfl, rfl⟩
        go_wp2_with (fail)
        go_ret
        exact ⟨ret_i (by rw [HE.out]; simp), hb1⟩
end Go.Proofs.Ytpjdojjdhbmbjaa
