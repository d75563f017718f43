/- Bounds and widths: the specification's. -/
import Derived.Test.YtbbhaongakmhpaaWid
import Derived.Test.YtbbhaongakmhpaaRver
namespace Go.Proofs.Ytbbhaongakmhpaa
open Go.RowKit

theorem bounds_first (l : List T3) (r t : Int) (k : Nat) :
    max (lowTo l r t k) (lw l (k + 1) - r * farI (tm l (k + 1)) t) = lowTo l r t (k + 1) ∧ min (highTo l r t k) (hg l (k + 1) + r * farI (tm l (k + 1)) t) = highTo l r t (k + 1) := ⟨rfl, rfl⟩
set_option maxRecDepth 100000 in
set_option maxHeartbeats 4000000 in
theorem rbounds_c (A : Option Addr) (l : List T3) (cap : Nat) (r t : Int) (w : World) (h0 : 0 < l.length) (hlen : l.length ≤ 1000) (hf : Fit l r) (ht : 0 ≤ t) (ht2 : t ≤ 2000) (hr : Rd w A (cellsT l)) :
    Calls Try.prog 73 #[.slice A l.length cap, .int .i64 r, .int .i64 t] w fun e w' => e = .returned (.tuple #[.int .i64 (lowB l r t), .int .i64 (highB l r t)]) ∧ Below w.heap.size w w' := by
  have HN := Lib.hid (fun k (h : k < l.length) => bounds_next hf ht ht2 h)
  have HF := Lib.hid (bounds_first l r t)
  have HT := Lib.hid (fun k (h : k < l.length) => (⟨hf.t0 k h, hf.t1 k h⟩ : 0 ≤ tm l k ∧ tm l k ≤ 1000))
  have HL : Hid (∀ k, k + 1 = l.length → lowTo l r t k = lowB l r t ∧ highTo l r t k = highB l r t) := fun k hk => by
    obtain rfl : k = l.length - 1 := by omega
    exact ⟨rfl, rfl⟩
  have HZ : Hid (lw l 0 - r * farI (tm l 0) t = lowTo l r t 0 ∧ hg l 0 + r * farI (tm l 0) t = highTo l r t 0) := ⟨rfl, rfl⟩
  clear hf
  have h0' : (0 : Int) < (l.length : Int) := by omega
  have hne : ¬ l = [] := by rintro rfl; simp at h0
  have HNE := Lib.hid hne
  clear hne
  obtain ⟨b, o, rfl, hbl, c0, c1, c2⟩ := hr.tri h0
  obtain ⟨p1, p2, p3, -, -⟩ := HN.out 0 h0
  obtain ⟨q1, q2⟩ := HT.out 0 h0
  have HCL : Hid (∀ w1, Below w.heap.size w w1 → (w1.cell? ⟨b, o, none⟩ = some (.int .i64 (tm l 0)) ∧ w1.cell? ⟨b, o + 1, none⟩ = some (.int .i64 (lw l 0)) ∧ w1.cell? ⟨b, o + 2, none⟩ = some (.int .i64 (hg l 0)))) := fun w1 hw => by
    have hh : ∀ j, w1.cell? ⟨b, j, none⟩ = w.cell? ⟨b, j, none⟩ := fun j => hw.cell (p := ⟨b, j, none⟩) hbl
    simp only [Nat.zero_mul, Nat.add_zero] at c0 c1 c2
    exact ⟨by rw [hh]; exact c0, by rw [hh]; exact c1, by rw [hh]; exact c2⟩
  clear c0 c1 c2
  have HD := fun w => Lib.hid (far_c (tm l 0) t w ⟨by omega, by omega⟩ ⟨by omega, by omega⟩)
  have s1 : IntKind.i64.wrap (r * farI (tm l 0) t) = r * farI (tm l 0) t := by rw [IntWalk.i64_left]; exact p1
  have s2 : IntKind.i64.wrap (lw l 0 - r * farI (tm l 0) t) = lw l 0 - r * farI (tm l 0) t := by rw [IntWalk.i64_left]; exact p2
  have s3 : IntKind.i64.wrap (hg l 0 + r * farI (tm l 0) t) = hg l 0 + r * farI (tm l 0) t := by rw [IntWalk.i64_left]; exact p3
  have hbW : Below w.heap.size w w.drew := (Below.refl _ _).drew
  go_enter Try.func73, Try.ntmps73
  go_wp2_with (fail)
  have hne := HNE.out
  generalize hT0 : tm l 0 = T0 at *
  generalize hL0 : lw l 0 = L0 at *
  generalize hH0 : hg l 0 = H0 at *
  clear hT0 hL0 hH0
  generalize farI T0 t = f0 at *
  refine wp_region_low (hbW) (by kernel_rfl) (by kernel_rfl) ?_
  repeat (first
    | go_big_quiet_skip
    | (go_big_quiet_want
       apply Exists.intro
       refine And.intro (fun W hW => ?_) ?_
       · (obtain ⟨z0, z1, z2⟩ := HCL.out W hW)
         go_simp
         first
           | exact rfl
           | (refine (HD W).out.mono ?_; rintro e w1 ⟨rfl, rfl⟩; exact ⟨rfl, hW⟩)
       try go_simp
       go_big_quiet_on))
  refine wpQuiet_nil ?_
  intro w9 hb9
  clear p1 p2 p3 q1 q2 s1 s2 s3 hbW HD
  have HZ1 := Lib.hid HZ.out.1
  have HZ2 := Lib.hid HZ.out.2
  clear HZ HCL
  go_wp2_with (fail)
  go_loopg [8, 9, 10] (l.length - 1) (fun gk av bv iv wr => ∃ k : Nat, Hid (k + 1 + gk = l.length) ∧ iv = .int .i64 ((k + 1 : Nat) : Int) ∧ av = .int .i64 (lowTo l r t k) ∧ bv = .int .i64 (highTo l r t k) ∧ Below w.heap.size w wr)
  case atStart => exact ⟨0, by show _ = _; omega, rfl, by rw [HZ1.out], by rw [HZ2.out], hb9⟩
  case round =>
    obtain ⟨k, HK, rfl, rfl, rfl, hb⟩ := hrel
    rcases gk with _ | gi
    · have hk : k + 1 = l.length := HK.out
      obtain ⟨e1, e2⟩ := HL.out k hk
      rw [e1, e2]
      have hge : ¬ (((k + 1 : Nat) : Int) < (l.length : Int)) := by omega
      have hge2 : ¬ ((k : Int) + 1 < (l.length : Int)) := by omega
      clear e1 e2 hk
      go_wp2_with (fail)
      go_ret2
      exact ⟨rfl, hb⟩
    · have hlt : k + 1 < l.length := by have := HK.out; omega
      have hlt' : ((k + 1 : Nat) : Int) < (l.length : Int) := by omega
      obtain ⟨p1, p2, p3, -, -⟩ := HN.out (k + 1) hlt
      have HP4 := Lib.hid (HF.out k).1
      have HP5 := Lib.hid (HF.out k).2
      obtain ⟨q1, q2⟩ := HT.out (k + 1) hlt
      obtain ⟨b', o', he, hbl, c0, c1, c2⟩ := (hr.later hb).tri hlt
      injection he with he
      injection he with e1 e2
      subst e1 e2
      have HD := fun w => Lib.hid (far_c (tm l (k + 1)) t w ⟨by omega, by omega⟩ ⟨by omega, by omega⟩)
      have HCL : Hid (∀ w1, Below wr.heap.size wr w1 → (w1.cell? ⟨b, o + (k + 1) * 3, none⟩ = some (.int .i64 (tm l (k + 1))) ∧ w1.cell? ⟨b, o + (k + 1) * 3 + 1, none⟩ = some (.int .i64 (lw l (k + 1))) ∧ w1.cell? ⟨b, o + (k + 1) * 3 + 2, none⟩ = some (.int .i64 (hg l (k + 1))))) := fun w1 hw => by
        have hh : ∀ j, w1.cell? ⟨b, j, none⟩ = wr.cell? ⟨b, j, none⟩ := fun j => hw.cell (p := ⟨b, j, none⟩) hbl
        exact ⟨by rw [hh]; exact c0, by rw [hh]; exact c1, by rw [hh]; exact c2⟩
      clear c0 c1 c2
      generalize tm l (k + 1) = T1 at *
      generalize lw l (k + 1) = L1 at *
      generalize hg l (k + 1) = H1 at *
      generalize farI T1 t = f at *
      have s1 : IntKind.i64.wrap (r * f) = r * f := by rw [IntWalk.i64_left]; exact p1
      have s2 : IntKind.i64.wrap (L1 - r * f) = L1 - r * f := by rw [IntWalk.i64_left]; exact p2
      have s3 : IntKind.i64.wrap (H1 + r * f) = H1 + r * f := by rw [IntWalk.i64_left]; exact p3
      generalize hk1 : k + 1 = j at *
      have HJ : Hid (k + 1 = j) := hk1
      clear hk1
      have hbW : Below wr.heap.size wr wr.drew := (Below.refl _ _).drew
      go_wp2_with (fail)
      refine wp_region_low (hbW) (by kernel_rfl) (by kernel_rfl) ?_
      repeat (first
        | go_big_quiet_skip
        | (go_big_quiet_want
           apply Exists.intro
           refine And.intro (fun W hW => ?_) ?_
           · (obtain ⟨z0, z1, z2⟩ := HCL.out W hW)
             go_simp
             first
               | exact rfl
               | (refine (HD W).out.mono ?_; rintro e w1 ⟨rfl, rfl⟩; exact ⟨rfl, hW⟩)
           try go_simp
           go_big_quiet_on))
      refine wpQuiet_nil ?_
      intro wa hba
      have hba2 := bl_call hb hba
      replace HCL := Lib.hid (fun w1 (h : Below wa.heap.size wa w1) => HCL.out w1 (bl_call hba h))
      have hbV : Below wa.heap.size wa wa.drew := (Below.refl _ _).drew
      clear hbW
      go_wp2_with (fail)
      all_goals
        refine wp_region_low (hbV) (by kernel_rfl) (by kernel_rfl) ?_
        repeat (first
          | go_big_quiet_skip
          | (go_big_quiet_want
             apply Exists.intro
             refine And.intro (fun W hW => ?_) ?_
             · (obtain ⟨z0, z1, z2⟩ := HCL.out W hW)
               go_simp
               first
                 | exact rfl
                 | (refine (HD W).out.mono ?_; rintro e w1 ⟨rfl, rfl⟩; exact ⟨rfl, hW⟩)
             try go_simp
             go_big_quiet_on))
        refine wpQuiet_nil ?_
        intro wc hbc
        have hbc2 := bl_call hba2 hbc
        go_wp2_with (fail)
        all_goals
          go_roundg gi
          case rel =>
            refine ⟨k + 1, by have := HK.out; have := HJ.out; show _ = _; omega, ?_, ?_, ?_, hbc2⟩
            · have := HJ.out; rw [← this]; go_num
            · rw [show k + 1 = j from HJ.out, ← HP4.out]; first | rfl | (congr 1; omega)
            · rw [show k + 1 = j from HJ.out, ← HP5.out]; first | rfl | (congr 1; omega)
          case measure => omega
end Go.Proofs.Ytbbhaongakmhpaa
