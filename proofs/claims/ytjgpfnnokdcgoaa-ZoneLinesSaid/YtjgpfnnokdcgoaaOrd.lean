/- All orders of some numbers. -/
import Derived.Test.YtjgpfnnokdcgoaaDistA
import Derived.Test.YtjgpfnnokdcgoaaWithZ
namespace Go.Proofs.Ytjgpfnnokdcgoaa
open Go.RowKit Go.Maps

/-- All orders of the numbers of a list of k. -/
def ordersL : Nat → List Int → List (List Int)
  | 0, _ => [[]]
  | k + 1, l => (List.range l.length).flatMap fun i => (ordersL k (l.eraseIdx i)).map fun o => l.getD i 0 :: o
def ordTo (k : Nat) (l : List Int) (i : Nat) : List (List Int) := (List.range i).flatMap fun i => (ordersL k (l.eraseIdx i)).map fun o => l.getD i 0 :: o
theorem ordTo_succ (k : Nat) (l : List Int) (i : Nat) : ordTo k l (i + 1) = ordTo k l i ++ (ordersL k (l.eraseIdx i)).map fun o => l.getD i 0 :: o := by
  rw [ordTo, List.range_succ, List.flatMap_append]; simp [ordTo]
def factN : Nat → Nat
  | 0 => 1
  | k + 1 => (k + 1) * factN k
theorem ordersL_len : ∀ (k : Nat) (l : List Int), l.length = k → (ordersL k l).length = factN k
  | 0, _, _ => rfl
  | k + 1, l, h => by
    rw [ordersL, List.length_flatMap, factN]
    have e : (List.range l.length).map (fun i => ((ordersL k (l.eraseIdx i)).map fun o => l.getD i 0 :: o).length) = List.replicate (k + 1) (factN k) := by
      rw [h]
      refine List.eq_replicate_iff.2 ⟨by simp, fun x hx => ?_⟩
      obtain ⟨i, hi, rfl⟩ := List.mem_map.1 hx
      rw [List.mem_range] at hi
      rw [List.length_map, ordersL_len k _ (by rw [List.length_eraseIdx_of_lt (by omega)]; omega)]
    rw [e, List.sum_replicate_nat]
theorem ordTo_len (k : Nat) (l : List Int) (h : l.length = k + 1) : ∀ i, i ≤ k + 1 → (ordTo k l i).length = i * factN k
  | 0, _ => by simp [ordTo]
  | i + 1, hi => by
    rw [ordTo_succ, List.length_append, ordTo_len k l h i (by omega), List.length_map, ordersL_len k _ (by rw [List.length_eraseIdx_of_lt (by omega)]; omega), Nat.add_mul, Nat.one_mul]
theorem ordersL_each : ∀ (k : Nat) (l : List Int), l.length = k → ∀ o ∈ ordersL k l, o.length = k
  | 0, _, _, o, ho => by rw [ordersL, List.mem_singleton] at ho; rw [ho]; rfl
  | k + 1, l, h, o, ho => by
    rw [ordersL, List.mem_flatMap] at ho
    obtain ⟨i, hi, ho⟩ := ho
    obtain ⟨o', ho', rfl⟩ := List.mem_map.1 ho
    rw [List.mem_range] at hi
    rw [List.length_cons, ordersL_each k _ (by rw [List.length_eraseIdx_of_lt hi]; omega) o' ho']
theorem factN_le : ∀ k, k ≤ 6 → factN k ≤ 720 := by decide
theorem headI_run (g o n c k : Nat) (h : k ≤ n) (hn : n ≤ c) (w : World) : (Instr.slice 25 (.slice (some ⟨g, o, none⟩) n c) none (some (.int .i64 k)) none).run Try.prog w = .ok (.slice (some ⟨g, o, none⟩) k c) w := by
  have q1 : (k : Int) ≤ (c : Int) := by omega
  have q2 : (0 : Int) ≤ (k : Int) := by omega
  go_simp
theorem fromI_run (g o n c k : Nat) (h : k < n) (hn : n ≤ c) (w : World) : (Instr.slice 25 (.slice (some ⟨g, o, none⟩) n c) (some (.int .i64 ((k : Int) + 1))) none none).run Try.prog w = .ok (.slice (if c = k + 1 then some ⟨g, o, none⟩ else some ⟨g, o + (k + 1), none⟩) (n - (k + 1)) (c - (k + 1))) w := by
  have q1 : (k : Int) + 1 ≤ (n : Int) := by omega
  have q2 : (0 : Int) ≤ (k : Int) + 1 := by omega
  have q3 : (n : Int) ≤ (c : Int) := by omega
  by_cases hk : c = k + 1
  · subst hk
    go_simp
  · have q4 : ¬ (c : Int) = (k : Int) + 1 := by omega
    go_simp
/-- A table of orders of the call's own. -/
def OutO (ls : List (List Int)) (w : World) (e : Ending) (w' : World) : Prop :=
  ∃ A' c' hs, e = .returned (.slice A' hs.length c') ∧ w'.ownsRow w.heap.size 25 1 (.slice A' hs.length c') hs.length hs ∧ RowsZ w' w.heap.size hs ls ∧ Below w.heap.size w w'
theorem ints_one (l : List Int) : ∀ u ∈ ints l, u.oneCell' = true := fun u hu => by
  obtain ⟨_, _, rfl⟩ := List.mem_map.1 hu; rfl

set_option maxRecDepth 100000 in
set_option maxHeartbeats 8000000 in
theorem orders_c : ∀ (k : Nat), k ≤ 6 → ∀ (l : List Int), l.length = k → ∀ (A : Option Addr) (c : Nat) (w : World), k ≤ c → Rd w A (ints l) → Calls Try.prog 79 #[.slice A l.length c] w (OutO (ordersL k l) w)
  | 0, _, l, hl, A, c, w, hc, hr => by
    have hl0 : ((l.length : Int) == 0) = true := by simp [hl]
    have hnew : (w.alloc (.cells #[.slice none 0 0] 25)).ownsRow w.heap.size 25 1 (.slice (some ⟨w.heap.size, 0, none⟩) 1 1) 1 [.slice none 0 0] := ⟨rfl, .inr ⟨w.heap.size, 1, #[.slice none 0 0], rfl, Nat.le_refl _, World.alloc_heap_new w _, Nat.le_refl _, by decide, rfl, rfl⟩⟩
    go_enter Try.func79, Try.ntmps79
    go_wp2_with (fail)
    go_ret
    refine ⟨some ⟨w.heap.size, 0, none⟩, 1, [.slice none 0 0], rfl, hnew, ⟨rfl, fun k hk => ?_⟩, bl_alloc (Below.refl _ _) _⟩
    have : k = 0 := by simpa [ordersL] using hk
    subst this
    exact ⟨none, 0, rfl, World.ownsRow_nil _ _ _ _⟩
  | k + 1, h6, l, hl, A, c, w, hc, hr => by
    obtain ⟨i0, hi, hz0, hz1, hz2⟩ := info_parts int_info
    obtain ⟨i1, hj, hy0, hy1, hy2⟩ := info_parts slice_info
    have IH := orders_c k (by omega)
    obtain ⟨b, o, rfl, hbl, -⟩ := hr.at_ (k := 0) (by rw [ints_length]; omega)
    have hl0 : ((l.length : Int) == 0) = false := by
      rw [Bool.eq_false_iff]
      intro h
      have := beq_iff_eq.1 h
      omega
    have hAll : ordersL (k + 1) l = ordTo k l l.length := rfl
    rw [hAll]
    have HOL := fun i hi => ordTo_len k l hl i hi
    have hF := factN_le k (by omega)
    have hFk : (k + 1) * factN k ≤ 720 := factN_le (k + 1) h6
    have HLH := Lib.hid hl
    clear hAll hl
    go_enter Try.func79, Try.ntmps79
    go_wp2_with (fail)
    go_loopg [3, 4] l.length (fun gk v iv wr => ∃ (i : Nat) (hs : List Value) (v' : Value), v' = v ∧ Hid (i + gk = l.length) ∧ iv = .int .i64 (i : Int) ∧ wr.ownsRow w.heap.size 25 1 v hs.length hs ∧ RowsZ wr w.heap.size hs (ordTo k l i) ∧ Below w.heap.size w wr)
    case atStart => exact ⟨0, [], _, rfl, by simp [Hid], rfl, World.ownsRow_nil _ _ _ _, RowsZ.nil _ _, Below.refl _ _⟩
    case round =>
      obtain ⟨i, hs, v, rfl, HI, rfl, ho, hrz, hb⟩ := hrel
      rcases gk with _ | gi
      · obtain rfl : i = l.length := HI.out
        obtain ⟨A', c', rfl⟩ := own_form ho
        go_wp2_with (fail)
        go_ret
        exact ⟨A', c', hs, rfl, ho, hrz, hb⟩
      · have hil : i < l.length := by have h := HI.out; omega
        obtain ⟨wo, rfl⟩ : ∃ wo, wo = wr := ⟨_, rfl⟩
        have hil' : (i : Int) < (l.length : Int) := by omega
        have hl := HLH.out
        have hel : (l.eraseIdx i).length = k := by rw [List.length_eraseIdx_of_lt hil]; omega
        have her : l.eraseIdx i = l.take i ++ l.drop (i + 1) := List.eraseIdx_eq_take_drop_succ ..
        have hpre : (l.take i).length = i := by simp; omega
        have hsuf : (l.drop (i + 1)).length = l.length - (i + 1) := by simp
        have hrw := hr.later hb
        have hint : ∀ x y : List Int, ints (x ++ y) = ints x ++ ints y := fun x y => by simp [ints]
        have hsz := hb.size
        -- the numbers but one, in new memory
        have hal : Below wo.heap.size wo ((wo.alloc (.cells #[] 3)).drew) := (bl_alloc (Below.refl _ _) _).drew
        have hown0 : ((wo.alloc (.cells #[] 3)).drew).ownsRow wo.heap.size 3 1 (.slice (some ⟨wo.heap.size, 0, none⟩) 0 0) 0 [] := World.ownsRow_made (e := 3) (size := 1) wo #[] 0 (Nat.le_refl _) (by decide) rfl
        have hrA := hrw.later hal
        obtain ⟨A1, c1, W1, hrun1, ho1, hg1⟩ := run_append_rows (P := Try.prog) ((wo.alloc (.cells #[] 3)).drew) wo.heap.size 25 3 i0 _ 1 8 Try.underlying25 hi hz0 hz1 hz2 rfl (by decide) _ 0 [] hown0 (some ⟨b, o, none⟩) i c (ints (l.take i)) (by rw [ints_length, hpre]; omega) (ints_one _) (rd_take i hrA) (by unfold maxLen; omega) (by omega) hal.size
        rw [Nat.zero_add, List.nil_append] at ho1
        simp only [Nat.zero_add] at hrun1
        have hbl1 : Below wo.heap.size wo W1 := hal.trans (grown_below hown0 hg1 hal.size)
        have hrq : Rd W1 (if c = i + 1 then (some ⟨b, o, none⟩ : Option Addr) else some ⟨b, o + (i + 1), none⟩) (ints (l.drop (i + 1))) := by
          by_cases hce : c = i + 1
          · rw [List.drop_eq_nil_iff.2 (by omega)]; exact Rd.nil _ _
          · rw [if_neg hce]
            have h2 := hrw.later hbl1
            rw [← List.take_append_drop (i + 1) l, hint] at h2
            have h3 := h2.tail
            rw [ints_length, List.length_take, Nat.min_eq_left (by omega)] at h3
            exact h3
        have hs1 := fun w1 => headI_run b o l.length c i (by omega) (by omega) w1
        have hs2 := fun w1 => fromI_run b o l.length c i hil (by omega) w1
        obtain ⟨A2, c2, W2, hrun2, ho2, hg2⟩ := run_append_rows (P := Try.prog) W1 wo.heap.size 25 3 i0 _ 1 8 Try.underlying25 hi hz0 hz1 hz2 rfl (by decide) _ i _ ho1 (if c = i + 1 then (some ⟨b, o, none⟩ : Option Addr) else some ⟨b, o + (i + 1), none⟩) (l.length - (i + 1)) (c - (i + 1)) (ints (l.drop (i + 1))) (by rw [ints_length, hsuf]; omega) (ints_one _) hrq (by unfold maxLen; omega) (by omega) hbl1.size
        have hbl2 : Below wo.heap.size wo W2 := hbl1.trans (grown_below ho1 hg2 hbl1.size)
        have hlen2 : i + (l.length - (i + 1)) = k := by omega
        rw [← hint, ← her, hlen2] at ho2
        rw [hlen2] at hrun2
        have HC := Lib.hid (IH (l.eraseIdx i) hel A2 c2 W2 (own_capZ ho2) (own_rd ho2).1)
        rw [hel] at HC
        have E1 := Lib.hid hrun1
        have E2 := Lib.hid hrun2
        have hw1 : IntKind.i64.wrap ((i : Int) + 1) = (i : Int) + 1 := by simp [IntKind.wrap, IntKind.bits, IntKind.signed]; omega
        have hic : (i : Int) ≤ (c : Int) := by omega
        generalize (if c = i + 1 then (some ⟨b, o, none⟩ : Option Addr) else some ⟨b, o + (i + 1), none⟩) = oa at *
        generalize l.length - (i + 1) = n2 at *
        generalize c - (i + 1) = d2 at *
        have HEL := Lib.hid hel
        clear hrun1 hrun2 ho1 hown0 hg1 hg2 hal hrq hrA ho2 hl hel hpre hsuf hlen2
        go_wp2_with (fail)
        go_region_law (first
          | (refine step_append_run rfl (.tmp 17) (.tmp 20) 25 rfl (.slice (some ⟨wo.heap.size, 0, none⟩) 0 0) (.slice (some ⟨b, o, none⟩) i c) (.slice A1 i c1) W1 (by simp [Act.eval]) (by simp [Act.eval]) E1.out ?_)
          | (refine step_append_run rfl (.tmp 21) (.tmp 25) 25 rfl (.slice A1 i c1) (.slice oa n2 d2) (.slice A2 k c2) W2 (by simp [Act.eval]) (by simp [Act.eval]) E2.out ?_)
          | (go_simp; refine HC.out.mono ?_; rintro e w3 ⟨A3, c3, hs3, rfl, ho3, hrz3, hb3⟩; try go_simp))
        all_goals
          have hb13 := bl_call hbl2 hb3
          have hbw3 := bl_call hb hb13
          have ho' := own_call ho hb13
          have hrz' := hrz.call hb13
          have hl3 : hs3.length = (ordersL k (l.eraseIdx i)).length := hrz3.1
          have hl3' := ordersL_len k _ HEL.out
          have hlo := ordTo_len k l HLH.out i (by have := HLH.out; omega)
          have hm3 := (own_rd ho3).1
          have hsW := hbl2.size
          have hs3' := hb3.size
          have hA3 : ∀ a, A3 = some a → W2.heap.size ≤ a.block := fun a ha => own_ge ho3 (k := a.block) (by rw [ha]; rfl)
          have hvb : ∀ g, v.ownBlock = some g → w3.heap.size ≤ g ∨ (w.heap.size ≤ g ∧ g < wo.heap.size) := fun g hg => .inr ⟨(ho.lt g hg).1, (ho.lt g hg).2⟩
          have hik : i * factN k ≤ 720 := Nat.le_trans (Nat.mul_le_mul_right _ (by have := HLH.out; omega)) hFk
          have HTS := Lib.hid (ordTo_succ k l i)
          have HEA := Lib.hid (ordersL_each k _ HEL.out)
          generalize ordersL k (l.eraseIdx i) = M at *
          generalize ordTo k l i = N at *
          have HL3 := Lib.hid hl3
          have HL3' := Lib.hid hl3'
          have HLO := Lib.hid hlo
          clear E1 E2 HC hbl1 hbl2 ho hrz hb3 ho3 hl3 hl3' hlo
          go_wp2_with (fail)
          go_loopg [3, 6] hs3.length (fun gk u iv wr => ∃ (j : Nat) (hs : List Value) (u' : Value), u' = u ∧ Hid (j + gk = hs3.length) ∧ iv = .int .i64 (j : Int) ∧ Hid (∀ g, u.ownBlock = some g → w3.heap.size ≤ g ∨ (w.heap.size ≤ g ∧ g < wo.heap.size)) ∧ wr.ownsRow w.heap.size 25 1 u hs.length hs ∧ RowsZ wr w.heap.size hs (N ++ (M.take j).map fun o => l.getD i 0 :: o) ∧ Mod (fun g => w.heap.size ≤ g ∧ g < wo.heap.size) w3 wr)
          case atStart => exact ⟨0, hs, _, rfl, by simp [Hid], rfl, hvb, ho', by simpa using hrz', Mod.refl _ _⟩
          case round =>
            obtain ⟨j, hs, u, rfl, HJ, rfl, HVB, ho, hrz, hmod⟩ := hrel
            have hbq : Below w.heap.size w wr := hbw3.trans (hmod.below (Nat.le_trans hsz (Nat.le_trans hsW hs3')) fun g hg h => by omega)
            rcases gk with _ | gj
            · obtain rfl : j = hs3.length := HJ.out
              rw [HL3.out, List.take_length, ← HTS.out] at hrz
              go_wp2_with (fail)
              go_roundg gi
              case rel => exact ⟨i + 1, hs, _, rfl, by have h := HI.out; show _ = _; omega, by go_num, ho, hrz, hbq⟩
              case measure => omega
            · have hl3 := HL3.out
              have hl3' := HL3'.out
              have hlo := HLO.out
              have hj3 : j < hs3.length := by have h := HJ.out; omega
              have hj3' : (j : Int) < (hs3.length : Int) := by omega
              have hjM : j < M.length := by omega
              have hj7 : (j : Int) < 720 := by omega
              obtain ⟨Aj, cj, hrow, hoj⟩ := hrz3.2 j hjM
              have hojl := HEA.out (M.getD j []) (by simp [hjM])
              have HMT : Hid (N ++ (M.take (j + 1)).map (fun o => l.getD i 0 :: o) = (N ++ (M.take j).map fun o => l.getD i 0 :: o) ++ [l.getD i 0 :: M.getD j []]) := by
                show _ = _
                rw [List.take_succ_eq_append_getElem hjM, List.map_append, List.append_assoc]
                simp [hjM]
              have hnl : hs.length ≤ 720 := by
                have := hrz.1
                rw [List.length_append, List.length_map, List.length_take] at this
                have hMl : M.length ≤ 720 := by omega
                have h2 : (i + 1) * factN k ≤ 720 := Nat.le_trans (Nat.mul_le_mul_right _ (by have := HLH.out; omega)) hFk
                rw [Nat.add_mul, Nat.one_mul] at h2
                omega
              have hrj := (own_rd (own_mod hoj hmod fun g hg hS => by have := own_ge hoj hg; omega)).1
              have hmr := hm3.mod hmod fun a ha _ _ hS => by have := hA3 a ha; omega
              have hlr := hr.later hbq
              obtain ⟨b3, o3, rfl, -, -⟩ := hmr.at_ (k := j) hj3
              have HF : ∀ W, Below wr.heap.size wr W → Hid (W.cell? ⟨b, o + i, none⟩ = some (.int .i64 (l.getD i 0)) ∧ W.cell? ⟨b3, o3 + j, none⟩ = some (.slice Aj (M.getD j []).length cj)) := fun W hW => by
                obtain ⟨b4, o4, he, _, hc4⟩ := (hlr.later hW).at_ (k := i) (by rw [ints_length]; exact hil)
                injection he with he
                injection he with e1 e2
                subst e1 e2
                obtain ⟨b5, o5, he, _, hc5⟩ := (hmr.later hW).at_ (k := j) hj3
                injection he with he
                injection he with e1 e2
                subst e1 e2
                exact ⟨hc4 i _ (ints_get hil), hc5 j _ hrow⟩
              generalize M.getD j [] = oj at *
              generalize l.getD i 0 = x at *
              generalize hNj : (N ++ (M.take j).map fun o => x :: o) = NJ at *
              have hpl : 1 + oj.length = (x :: oj).length := by rw [List.length_cons]; omega
              have hbA : Below wr.heap.size wr ((wr.alloc (.cells #[.int .i64 x] 3)).drew) := (bl_alloc (Below.refl _ _) _).drew
              have hownA : ((wr.alloc (.cells #[.int .i64 x] 3)).drew).ownsRow wr.heap.size 3 1 (.slice (some ⟨wr.heap.size, 0, none⟩) 1 1) 1 (ints [x]) := ⟨rfl, .inr ⟨wr.heap.size, 1, #[.int .i64 x], rfl, Nat.le_refl _, World.alloc_heap_new wr _, Nat.le_refl _, by decide, rfl, rfl⟩⟩
              obtain ⟨A4, c4, W4, hrun4, ho4, hg4⟩ := run_append_rows (P := Try.prog) ((wr.alloc (.cells #[.int .i64 x] 3)).drew) wr.heap.size 25 3 i0 _ 1 8 Try.underlying25 hi hz0 hz1 hz2 rfl (by decide) _ 1 _ hownA Aj oj.length cj (ints oj) (by rw [ints_length]; omega) (ints_one _) (hrj.later hbA) (by unfold maxLen; omega) (by omega) hbA.size
              have hb4 : Below wr.heap.size wr W4 := hbA.trans (grown_below hownA hg4 hbA.size)
              rw [← hint, hpl] at ho4
              rw [hpl] at hrun4
              have ho4' : W4.ownsRow wr.heap.size 3 1 (.slice A4 (x :: oj).length c4) (x :: oj).length (ints (x :: oj)) := ho4
              have hbB : Below wr.heap.size wr (W4.alloc (.cells #[.slice A4 (x :: oj).length c4] 25)) := bl_alloc hb4 _
              have hb4B : Below W4.heap.size W4 (W4.alloc (.cells #[.slice A4 (x :: oj).length c4] 25)) := bl_alloc (Below.refl _ _) _
              have xB := Bx.new W4 25 #[.slice A4 (x :: oj).length c4]
              have hoB := own_call ho hbB
              have hwr0 := hbq.size
              have hsB := hbB.size
              obtain ⟨v5, W5, hrun5, ho5, hg5, _, hat5⟩ := run_append_own_at (P := Try.prog) (W4.alloc (.cells #[.slice A4 (x :: oj).length c4] 25)) w.heap.size 101 0 25 i1 _ 1 24 Try.underlying101 hj hy0 hy1 hy2 rfl (by decide) _ hs.length hs hoB ⟨W4.heap.size, 0, none⟩ 1 1 [.slice A4 (x :: oj).length c4] rfl (fun j u hj => by
                have hadd : (⟨W4.heap.size, 0, none⟩ : Addr).add j = ⟨W4.heap.size, j, none⟩ := by unfold Addr.add; split <;> simp_all
                rw [hadd, Bx.cell xB j]; simpa using hj) (fun u hu => by simp at hu; rw [hu]; rfl) (by unfold maxLen; omega) (by omega) (by omega)
              have hrun5' : ∀ ty, (Builtin.append_ #[101, 101] ty #[u, .slice (some ⟨W4.heap.size, 0, none⟩) 1 1]).run Try.prog (W4.alloc (.cells #[.slice A4 (x :: oj).length c4] 25)) = .ok v5 W5 := fun ty => hrun5
              have E4 := Lib.hid hrun4
              have E5 := Lib.hid hrun5'
              obtain ⟨p0, p1⟩ := (HF _ (Below.refl _ _)).out
              obtain ⟨p2, p3⟩ := (HF _ hbA).out
              have hrz5 : RowsZ W5 w.heap.size (hs ++ [.slice A4 (x :: oj).length c4]) (NJ ++ [x :: oj]) := RowsZ.grown ((hrz.call hbB).snoc (own_base (own_call ho4' hb4B) hwr0)) hoB (by decide) hg5
              have hmod5 : Mod (fun g => w.heap.size ≤ g ∧ g < wo.heap.size) w3 W5 := (hmod.call hbB).grown hg5 fun g hg => HVB.out g hg
              have HVB5 : Hid (∀ g, v5.ownBlock = some g → w3.heap.size ≤ g ∨ (w.heap.size ≤ g ∧ g < wo.heap.size)) := fun g hg => by
                rcases hat5 with h | h
                · exact HVB.out g (by rw [← h]; exact hg)
                · left
                  rw [h] at hg
                  injection hg with hg
                  have := hmod.size
                  omega
              rw [← HMT.out] at hrz5
              have ho5' : W5.ownsRow w.heap.size 25 1 v5 (hs ++ [Value.slice A4 (x :: oj).length c4]).length (hs ++ [Value.slice A4 (x :: oj).length c4]) := by rw [List.length_append, List.length_singleton]; exact ho5
              have HREL := Lib.hid (And.intro HVB5 (And.intro ho5' (And.intro hrz5 hmod5)))
              generalize (x :: oj).length = np at *
              clear hrun4 hrun5 hrun5' ho4 ho4' ho5 ho5' hrz5 hmod5 HVB5 hoB hownA hg4 hg5 xB hbA hbB hb4B hrow hoj ho hrz hat5 hojl hpl hl3 hl3' hlo
              go_wp2_with (fail)
              go_region_law (first
                | (refine step_append_run rfl (.tmp 39) (.tmp 43) 25 rfl (.slice (some ⟨wr.heap.size, 0, none⟩) 1 1) (.slice Aj oj.length cj) (.slice A4 np c4) W4 (by simp [Act.eval]) (by simp [Act.eval]) E4.out ?_)
                | (refine step_append_run rfl (.tmp 34) (.tmp 45) 101 rfl u (.slice (some ⟨W4.heap.size, 0, none⟩) 1 1) v5 W5 (by simp [Act.eval]) (by simp [Act.eval]) E5.out ?_))
              all_goals
                go_wp2_with (fail)
                go_roundg gj
                case rel => exact ⟨j + 1, hs ++ [Value.slice A4 np c4], v5, rfl, by have h := HJ.out; show j + 1 + gj = hs3.length; omega, by go_num, HREL.out⟩
                case measure => omega
end Go.Proofs.Ytjgpfnnokdcgoaa
