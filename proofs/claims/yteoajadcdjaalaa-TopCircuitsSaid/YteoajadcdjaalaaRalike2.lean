/- The document's alike, walked. -/
import Derived.Test.YteoajadcdjaalaaRalike
namespace Go.Proofs.Yteoajadcdjaalaa
open Go.RowKit

set_option maxRecDepth 100000 in
set_option maxHeartbeats 4000000 in
theorem ralike_c (A B : Option Addr) (l m : List G) (c d : Nat) (w : World) (hlen : l.length ≤ 1000) (hlen' : m.length ≤ 1000) (hgl : Gs l) (hgm : Gs m) (hr : Rd w A (cellsG l)) (hs : Rd w B (cellsG m)) :
    Calls Try.prog 63 #[.slice A l.length c, .slice B m.length d] w fun e w' => e = .returned (.bool (sameL (nameL l) (nameL m))) ∧ Below w.heap.size w w' := by
  obtain ⟨i0, hi, hz0, hz1, hz2⟩ := info_parts gate_info
  have hb0 : Below w.heap.size w (w.alloc (.cells #[] 23)) := bl_alloc (Below.refl _ _) _
  have ho0 : (w.alloc (.cells #[] 23)).ownsRow w.heap.size 23 4 (.slice (some ⟨w.heap.size, 0, none⟩) 0 0) 0 (cellsG []) := World.ownsRow_made (e := 23) (size := 4) w #[] 0 (Nat.le_refl _) (by decide) rfl
  have HALL : Hid ((∀ i, i < (l ++ m).length → ∀ k, k ≤ i → okP l m ((l ++ m).getD i g0) ((l ++ m).getD k g0) = true) → sameL (nameL l) (nameL m) = true) := fun h => alk_same.2 (alk_pairs.2 h)
  have HNO : Hid (∀ i k, i < (l ++ m).length → k ≤ i → okP l m ((l ++ m).getD i g0) ((l ++ m).getD k g0) = false → sameL (nameL l) (nameL m) = false) := fun i k hi hk h => by
    rw [← Bool.not_eq_true, alk_same, alk_pairs]
    intro hh
    have := hh i hi k hk
    rw [h] at this; cases this
  generalize sameL (nameL l) (nameL m) = res at *
  go_enter Try.func63, Try.ntmps63
  go_wp2_with (at_builtin; refine wpList_append_any rfl _ _ 29 rfl w.heap.size 23 i0 _ 32 Try.underlying29 hi hz0 hz1 hz2 rfl _ 0 (cellsG []) rfl ho0 A l c rfl (hr.later hb0) (by unfold maxLen; omega) (by omega) (by simp) ?_)
  intro A1 c1 w1 ho1 hg1
  have hb1 : Below w.heap.size w w1 := hb0.trans (grown_below ho0 hg1 (by simp))
  have ho1' : w1.ownsRow w.heap.size 23 4 (.slice A1 l.length c1) l.length (cellsG l) := ho1
  clear hg1 ho1 ho0
  go_wp2_with (at_builtin; refine wpList_append_any rfl _ _ 29 rfl w.heap.size 23 i0 _ 32 Try.underlying29 hi hz0 hz1 hz2 rfl _ l.length (cellsG l) rfl ho1' B m d rfl (hs.later hb1) (by unfold maxLen; omega) (by omega) hb1.size ?_)
  intro A2 c2 w2 ho2 hg2
  have hb2 : Below w.heap.size w w2 := hb1.trans (grown_below ho1' hg2 hb1.size)
  have hrA : Rd w2 A2 (cellsG (l ++ m)) := by rw [cellsG_append]; exact (own_rd ho2).1
  have HN : Hid ((l ++ m).length = l.length + m.length) := by show _ = _; simp
  have hrl := hr.later hb2
  have hrm := hs.later hb2
  have hgs : Gs (l ++ m) := fun x hx => (List.mem_append.1 hx).elim (hgl x) (hgm x)
  have hal : (l ++ m).length ≤ 2000 := by simp; omega
  clear ho2 hg2 ho1' hb1 hb0 hr hs hgl hgm
  rw [← HN.out]
  clear HN
  generalize l ++ m = a at *
  go_wp2_with (fail)
  go_loopg [6] a.length (fun gk iv wr => ∃ i : Nat, Hid (i + gk = a.length) ∧ iv = .int .i64 (i : Int) ∧ Hid (∀ i', i' < i → ∀ k, k ≤ i' → okP l m (a.getD i' g0) (a.getD k g0) = true) ∧ Below w2.heap.size w2 wr)
  case atStart => exact ⟨0, by simp [Hid], rfl, fun i' h => by omega, Below.refl _ _⟩
  case round =>
    obtain ⟨i, HI, rfl, Hall, hb⟩ := hrel
    rcases gk with _ | gi
    · obtain rfl : i = a.length := HI.out
      have HR : Hid (res = true) := HALL.out Hall.out
      go_wp2_with (fail)
      go_ret
      exact ⟨by rw [HR.out]; rfl, bl_call hb2 hb⟩
    · have hi1 : i < a.length := by have h := HI.out; omega
      have hi1' : (i : Int) < (a.length : Int) := by omega
      obtain ⟨wo, rfl⟩ : ∃ wo : World, wo = wr := ⟨_, rfl⟩
      go_wp2_with (fail)
      go_loopg [7] (i + 1) (fun gk kv wi => ∃ k : Nat, Hid (k + gk = i + 1) ∧ kv = .int .i64 (k : Int) ∧ Hid (∀ k', k' < k → okP l m (a.getD i g0) (a.getD k' g0) = true) ∧ Below w2.heap.size w2 wi)
      case atStart => exact ⟨0, by simp [Hid], rfl, fun k' h => by omega, hb⟩
      case round =>
        obtain ⟨k, HK, rfl, Hin, hb3⟩ := hrel
        rcases gk with _ | gj
        · obtain rfl : k = i + 1 := HK.out
          have hgt : ¬ ((i + 1 : Nat) : Int) ≤ (i : Int) := by omega
          have hgt2 : ¬ (i : Int) + 1 ≤ (i : Int) := by omega
          go_wp2_with (fail)
          go_roundg gi
          case rel => exact ⟨i + 1, by have h := HI.out; show _ = _; omega, by go_num, (fun i' h k h2 => by
            rcases Nat.lt_or_ge i' i with hlt | hge
            · exact Hall.out i' hlt k h2
            · obtain rfl : i' = i := by omega
              exact Hin.out k (by omega)), hb3⟩
          case measure => omega
        · have hki : k ≤ i := by have h := HK.out; omega
          have hki' : (k : Int) ≤ (i : Int) := by omega
          have hk1 : k < a.length := by omega
          have hk1' : (k : Int) < (a.length : Int) := by omega
          have Hno := Lib.hid (HNO.out i k hi1 hki)
          have hgi := Lib.hid (hgs.get hi1)
          have hgk := Lib.hid (hgs.get hk1)
          have Hok : Hid (okP l m (a.getD i g0) (a.getD k g0) = (!tiedG (a.getD i g0) (a.getD k g0) || sameL (pairTo l (a.getD i g0) (a.getD k g0) l.length) (pairTo m (a.getD i g0) (a.getD k g0) m.length))) := rfl
          have Hin2 : Hid (okP l m (a.getD i g0) (a.getD k g0) = true → ∀ k', k' < k + 1 → okP l m (a.getD i g0) (a.getD k' g0) = true) := fun h k' hk' => by
            rcases Nat.lt_or_ge k' k with hlt | hge
            · exact Hin.out k' hlt
            · obtain rfl : k' = k := by omega
              exact h
          obtain ⟨b, o, rfl, hG1⟩ := gate_at hrA hi1
          obtain ⟨b', o', he, hG2⟩ := gate_at hrA hk1
          injection he with he
          injection he with e1 e2
          subst e1 e2
          have HT := Lib.hid (fun k a b t k' a' b' t' h h' => @rbound_tied k a b t k' a' b' t' h h')
          have hpl := pairTo_len l (a.getD i g0) (a.getD k g0) l.length
          clear Hall Hin HNO HALL
          generalize a.getD i g0 = x at *
          generalize a.getD k g0 = y at *
          obtain ⟨xk, xa, xb, xt⟩ := x
          obtain ⟨yk, ya, yb, yt⟩ := y
          simp only [] at hG1 hG2
          have HTE := Lib.hid (HT.out xk xa xb xt yk ya yb yt hgi.out hgk.out)
          have HC := fun w => Lib.hid (rbound_c xk xa xb xt yk ya yb yt w)
          rw [HTE.out] at HC
          clear HT HTE
          have HP1 := fun w1 (h : Below w2.heap.size w2 w1) => Lib.hid (rpair_c A l c xk xa xb xt yk ya yb yt w1 hlen (hrl.later h))
          have HP2 := fun w1 (h : Below w2.heap.size w2 w1) => Lib.hid (rpair_c B m d xk xa xb xt yk ya yb yt w1 hlen' (hrm.later h))
          have HS := fun A1 A2 c1 c2 w1 h1 h2 => Lib.hid (same_c A1 A2 (pairTo l (xk, xa, xb, xt) (yk, ya, yb, yt) l.length) (pairTo m (xk, xa, xb, xt) (yk, ya, yb, yt) m.length) c1 c2 w1 (by omega) h1 h2)
          generalize tiedG (xk, xa, xb, xt) (yk, ya, yb, yt) = tb at *
          generalize pairTo l (xk, xa, xb, xt) (yk, ya, yb, yt) l.length = P1 at *
          generalize pairTo m (xk, xa, xb, xt) (yk, ya, yb, yt) m.length = P2 at *
          generalize sameL P1 P2 = sb at *
          generalize okP l m (xk, xa, xb, xt) (yk, ya, yb, yt) = ok at *
          have hCC : Below w2.heap.size w2 wr.drew := hb3.drew
          cases tb with
          | false =>
            have Hok' : ok = true := Hok.out
            have HI2 := Lib.hid (Hin2.out Hok')
            clear Hok' Hok Hno Hin2
            go_wp2_with (fail)
            refine wp_region_low (hCC) (by kernel_rfl) (by kernel_rfl) ?_
            repeat (first
              | go_big_quiet_skip
              | (go_big_quiet_want
                 apply Exists.intro
                 refine And.intro (fun W hW => ?_) ?_
                 · (obtain ⟨p0, p1, p2, p3⟩ := hG1.out W hW; obtain ⟨q0, q1, q2, q3⟩ := hG2.out W hW)
                   go_simp
                   first
                     | exact rfl
                     | ((refine (HC W).out.mono ?_; rintro e w1 ⟨rfl, hb1⟩; exact ⟨rfl, bl_call hW hb1⟩))
                 try go_simp
                 go_big_quiet_on))
            refine wpQuiet_nil ?_
            intro w9 hb9
            go_wp2_with (fail)
            go_roundg gj
            case rel => exact ⟨k + 1, by have h := HK.out; show _ = _; omega, by go_num, HI2.out, hb9⟩
            case measure => omega
          | true =>
            have mkS : ∀ w1, Below w2.heap.size w2 w1 → Below w2.heap.size w2 w1 ∧ (w1.cell? ⟨b, o + i * 4, none⟩ = some (.int .i64 xk) ∧ w1.cell? ⟨b, o + i * 4 + 1, none⟩ = some (.int .i64 xa) ∧ w1.cell? ⟨b, o + i * 4 + 2, none⟩ = some (.int .i64 xb) ∧ w1.cell? ⟨b, o + i * 4 + 3, none⟩ = some (.int .i64 xt)) ∧
                (w1.cell? ⟨b, o + k * 4, none⟩ = some (.int .i64 yk) ∧ w1.cell? ⟨b, o + k * 4 + 1, none⟩ = some (.int .i64 ya) ∧ w1.cell? ⟨b, o + k * 4 + 2, none⟩ = some (.int .i64 yb) ∧ w1.cell? ⟨b, o + k * 4 + 3, none⟩ = some (.int .i64 yt)) := fun w1 h => ⟨h, hG1.out w1 h, hG2.out w1 h⟩
            have Hok' : Hid (ok = sb) := Hok.out
            clear Hok hG1 hG2 hb3
            go_wp2_with (fail)
            go_region_held2 (fun w1 => Below w2.heap.size w2 w1 ∧ (w1.cell? ⟨b, o + i * 4, none⟩ = some (.int .i64 xk) ∧ w1.cell? ⟨b, o + i * 4 + 1, none⟩ = some (.int .i64 xa) ∧ w1.cell? ⟨b, o + i * 4 + 2, none⟩ = some (.int .i64 xb) ∧ w1.cell? ⟨b, o + i * 4 + 3, none⟩ = some (.int .i64 xt)) ∧
                (w1.cell? ⟨b, o + k * 4, none⟩ = some (.int .i64 yk) ∧ w1.cell? ⟨b, o + k * 4 + 1, none⟩ = some (.int .i64 ya) ∧ w1.cell? ⟨b, o + k * 4 + 2, none⟩ = some (.int .i64 yb) ∧ w1.cell? ⟨b, o + k * 4 + 3, none⟩ = some (.int .i64 yt)))
              (first | exact mkS _ hCC | exact mkS _ hbN)
              (first
                | (go_at_call 67; refine (HC _).out.mono ?_; rintro e w7 ⟨rfl, hb7⟩; have hbN := bl_call hCC hb7)
                | (go_at_call 82; have hg8 := ho8; clear hg8; refine (HP2 _ hbN).out.mono ?_; rintro e w9 ⟨A9, c9, rfl, ho9, hb9⟩; have hbL := hbN; have hbN := bl_call hbL hb9)
                | (go_at_call 82; refine (HP1 _ hbN).out.mono ?_; rintro e w8 ⟨A8, c8, rfl, ho8, hb8⟩; have hbM := hbN; have hbN := bl_call hbM hb8)
                | (go_at_call 27; refine (HS A8 A9 c8 c9 _ ((own_rd ho8).1.later hb9) (own_rd ho9).1).out.mono ?_; rintro e w10 ⟨rfl, hb10⟩; have hbK := hbN; have hbN := bl_call hbK hb10))
            all_goals
              cases sb with
              | true =>
                have HI2 := Lib.hid (Hin2.out Hok'.out)
                clear Hno Hin2 Hok' HC HP1 HP2 HS mkS
                go_wp2_with (fail)
                go_roundg gj
                case rel => exact ⟨k + 1, by have h := HK.out; show _ = _; omega, by go_num, HI2.out, hbN⟩
                case measure => omega
              | false =>
                have HR := Lib.hid (Hno.out Hok'.out)
                clear Hno Hin2 Hok' HC HP1 HP2 HS mkS
                go_wp2_with (fail)
                go_ret
                exact ⟨by rw [HR.out]; rfl, bl_call hb2 hbN⟩
end Go.Proofs.Yteoajadcdjaalaa
