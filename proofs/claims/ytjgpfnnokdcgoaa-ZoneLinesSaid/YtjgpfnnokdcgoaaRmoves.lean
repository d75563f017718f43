/- The specification's moves of a place. -/
import Derived.Test.YtjgpfnnokdcgoaaFree
namespace Go.Proofs.Ytjgpfnnokdcgoaa
open Go.RowKit Go.Maps

theorem upTo_filter (f g : Int → Bool) : ∀ k, (upTo f k).filter g = upTo (fun z => f z && g z) k
  | 0 => rfl
  | k + 1 => by
    rw [upTo, upTo]
    have ih := upTo_filter f g k
    cases hf : f k with
    | true =>
      cases hg : g k with
      | true => simp [ih, hg]
      | false => simp [ih, hg]
    | false => simp [ih]
/-- The moves of an ion to the first zones. -/
def rmTo (l : List (Int × Int)) (p : List Int) (i k : Nat) : List (Int × Int) := (upTo (fun z => linkB l (p.getD i 0) z && !p.contains z) k).map fun t => ((i : Int), t)
theorem rmTo_all (l : List (Int × Int)) (p : List Int) (i Z : Nat) : rmTo l p i Z = mvIn p i (nearL l (p.getD i 0) Z) := by
  rw [rmTo, mvIn, nearL, upTo_filter]
theorem rmTo_snoc (l : List (Int × Int)) (p : List Int) (i k : Nat) : rmTo l p i (k + 1) = if (linkB l (p.getD i 0) k && !p.contains (k : Int)) then rmTo l p i k ++ [((i : Int), (k : Int))] else rmTo l p i k := by
  rw [rmTo, upTo]
  split
  · rw [List.map_append]; rfl
  · rfl
theorem rmTo_len (l : List (Int × Int)) (p : List Int) (i k : Nat) : (rmTo l p i k).length ≤ k := by rw [rmTo, List.length_map]; exact upTo_len _ k

set_option maxRecDepth 100000 in
set_option maxHeartbeats 4000000 in
theorem rMoves_c (Z : Int) (A B : Option Addr) (l : List (Int × Int)) (p : List Int) (c d : Nat) (w : World) (hlen : l.length ≤ 1000) (hlen' : p.length ≤ 1000) (hcap : p.length ≤ d) (hr : Rd w A (cellsP l)) (hs : Rd w B (ints p)) :
    Calls Try.prog 30 #[trapV Z A l.length c, .slice B p.length d] w (OutM (movesG Z l p) (placeE Z l p) w) := by
  obtain ⟨i0, hi, hz0, hz1, hz2⟩ := info_parts move_info
  have x0 := Bx.new w 24 #[.int .i64 Z, .slice A l.length c]
  have hb0 := bl_alloc (Below.refl w.heap.size w) (.cells #[.int .i64 Z, .slice A l.length c] 24)
  generalize hw0 : w.alloc (.cells #[.int .i64 Z, .slice A l.length c] 24) = w0 at *
  have HV := Lib.hid (rplace_c Z A B l p c d w0 hlen hlen' hcap (hr.later hb0) (hs.later hb0))
  obtain ⟨c0, c1, _⟩ := x0.two
  by_cases hp : placeE Z l p = 0
  · obtain ⟨ht, hp4, hin, hnd⟩ := placeE_zero hp
    obtain ⟨n, rfl, hn1, hn6⟩ := trap_nat ht
    have HH := fun t w1 h => Lib.hid (has_c B p d t w1 (by omega) h)
    have HLK := fun a b w1 h => Lib.hid (rlinked_c n A l c a b w1 hlen h)
    have e1 : movesG n l p = mvTo l n p p.length := by rw [movesG, if_pos hp]; simp
    rw [e1]
    rw [hp] at HV ⊢
    have HML := mvTo_len l n p
    clear e1 hp hnd ht
    go_enter Try.func30, Try.ntmps30
    go_wp2_with (fail)
    refine HV.out.mono ?_
    rintro e w1 ⟨rfl, hb1⟩
    have hb01 := bl_call hb0 hb1
    have x1 := x0.call hb1
    have hs1 := hs.later hb01
    have hr1 := hr.later hb01
    have hb01' := hb01.size
    clear c0 c1
    go_wp2_with (fail)
    go_loopg [7, 8] p.length (fun gk v iv wr => ∃ i : Nat, Hid (i + gk = p.length) ∧ iv = .int .i64 (i : Int) ∧ wr.ownsRow w1.heap.size 54 2 v (mvTo l n p i).length (cellsP (mvTo l n p i)) ∧ Below w1.heap.size w1 wr)
    case atStart => exact ⟨0, by simp [Hid], rfl, World.ownsRow_nil _ _ _ _, Below.refl _ _⟩
    case round =>
      obtain ⟨i, HI, rfl, hown, hb⟩ := hrel
      rcases gk with _ | gi
      · obtain rfl : i = p.length := HI.out
        obtain ⟨A', c', rfl⟩ := own_form hown
        go_wp2_with (fail)
        go_ret2
        exact ⟨A', c', rfl, own_base hown hb01', bl_call hb01 hb⟩
      · have hil : i < p.length := by have h := HI.out; omega
        have hil' : (i : Int) < (p.length : Int) := by omega
        have HMV : Hid (mvTo l n p (i + 1) = mvTo l n p i ++ rmTo l p i n) := by show _ = _; rw [mvTo, rmTo_all]
        have hml : (mvTo l n p i).length ≤ 24 := Nat.le_trans (HML i) (Nat.le_trans (Nat.mul_le_mul (by omega : i ≤ 4) hn6) (by omega))
        obtain ⟨b, o, rfl, hbl, hc⟩ := hs1.at_ (k := i) (by simpa using hil)
        have HC0 : ∀ wr', Below w1.heap.size w1 wr' → Hid (wr'.cell? ⟨b, o + i, none⟩ = some (.int .i64 (p.getD i 0))) := fun wr' hb' => by
          obtain ⟨b2, o2, he, _, hc2⟩ := (hs1.later hb').at_ (k := i) (by simpa using hil)
          injection he with he
          injection he with e1 e2
          subst e1 e2
          exact hc2 i _ (ints_get hil)
        clear hc
        have HRl := rmTo_len l p i
        have HRs := rmTo_snoc l p i
        generalize p.getD i 0 = a at *
        generalize mvTo l n p i = M at *
        go_wp2_with (fail)
        go_loopg [7, 9] n (fun gk v iv wr => ∃ k : Nat, Hid (k + gk = n) ∧ iv = .int .i64 (k : Int) ∧ wr.ownsRow w1.heap.size 54 2 v (M ++ rmTo l p i k).length (cellsP (M ++ rmTo l p i k)) ∧ Below w1.heap.size w1 wr)
        case atStart => exact ⟨0, by simp [Hid], rfl, by simpa [rmTo, upTo] using hown, hb⟩
        case round =>
          obtain ⟨k, HK, rfl, hown, hb⟩ := hrel
          have xr := x1.call hb
          obtain ⟨c0, c1, _⟩ := xr.two
          rcases gk with _ | gj
          · obtain rfl : k = n := HK.out
            rw [← HMV.out] at hown
            go_wp2_with (fail)
            go_roundg gi
            case rel => exact ⟨i + 1, by have h := HI.out; show _ = _; omega, by go_num, hown, hb⟩
            case measure => omega
          · have hkl' : (k : Int) < (n : Int) := by have h := HK.out; omega
            have hkn : k < n := by omega
            have hN := HRl k
            have HX := Lib.hid (HRs k)
            have HLKa := HLK a k
            have HHk := HH k
            generalize rmTo l p i k = N at *
            have hMN : (M ++ N).length ≤ 30 := by rw [List.length_append]; omega
            have hC : Below wr.heap.size wr wr.drew := (Below.refl _ _).drew
            have HCC := fun W (hW : Below wr.heap.size wr W) => Lib.hid ((xr.call hW).two)
            have HCA := fun W (hW : Below wr.heap.size wr W) => HC0 W (bl_call hb hW)
            have HRR := fun W (hW : Below wr.heap.size wr W) => Lib.hid (hr1.later (bl_call hb hW))
            have HSS := fun W (hW : Below wr.heap.size wr W) => Lib.hid (hs1.later (bl_call hb hW))
            clear HC0 HRl HRs HLK HH
            cases hq1 : linkB l a k with
            | false =>
              have HX' : Hid (M ++ rmTo l p i (k + 1) = M ++ N) := by show _ = _; rw [HX.out, hq1]; rfl
              rw [hq1] at HLKa
              clear HX hq1
              generalize M ++ N = MN at *
              go_wp2_with (fail)
              refine wp_region_low (hC) (by kernel_rfl) (by kernel_rfl) ?_
              repeat (first
                | go_big_quiet_skip
                | (go_big_quiet_want
                   apply Exists.intro
                   refine And.intro (fun W hW => ?_) ?_
                   · (obtain ⟨c0, c1, _⟩ := (HCC W hW).out; have hca := (HCA W hW).out)
                     go_simp
                     first
                       | exact rfl
                       | ((first | (refine (HLKa W (HRR W hW).out).out.mono ?_; rintro e w4 ⟨rfl, hb4⟩; exact ⟨rfl, bl_call hW hb4⟩)))
                   try go_simp
                   go_big_quiet_on))
              refine wpQuiet_nil ?_
              intro w9 hb9
              have hown9 := own_call hown hb9
              go_wp2_with (fail)
              go_roundg gj
              case rel => exact ⟨k + 1, by have h := HK.out; show _ = _; omega, by go_num, by rw [HX'.out]; exact hown9, bl_call hb hb9⟩
              case measure => omega
            | true =>
              rw [hq1] at HLKa
              rw [has_contains] at HHk
              cases hq2 : p.contains (k : Int) with
              | true =>
                have HX' : Hid (M ++ rmTo l p i (k + 1) = M ++ N) := by show _ = _; rw [HX.out, hq1, hq2]; rfl
                rw [hq2] at HHk
                clear HX hq1 hq2
                generalize M ++ N = MN at *
                go_wp2_with (fail)
                refine wp_region_low (hC) (by kernel_rfl) (by kernel_rfl) ?_
                repeat (first
                  | go_big_quiet_skip
                  | (go_big_quiet_want
                     apply Exists.intro
                     refine And.intro (fun W hW => ?_) ?_
                     · (obtain ⟨c0, c1, _⟩ := (HCC W hW).out; have hca := (HCA W hW).out)
                       go_simp
                       first
                         | exact rfl
                         | ((first | (refine (HLKa W (HRR W hW).out).out.mono ?_; rintro e w4 ⟨rfl, hb4⟩; exact ⟨rfl, bl_call hW hb4⟩) | (refine (HHk W (HSS W hW).out).out.mono ?_; rintro e w4 ⟨rfl, rfl⟩; exact ⟨rfl, hW⟩)))
                     try go_simp
                     go_big_quiet_on))
                refine wpQuiet_nil ?_
                intro w9 hb9
                have hown9 := own_call hown hb9
                go_wp2_with (fail)
                go_roundg gj
                case rel => exact ⟨k + 1, by have h := HK.out; show _ = _; omega, by go_num, by rw [HX'.out]; exact hown9, bl_call hb hb9⟩
                case measure => omega
              | false =>
                have HX' : Hid (M ++ rmTo l p i (k + 1) = (M ++ N) ++ [((i : Int), (k : Int))]) := by show _ = _; rw [HX.out, hq1, hq2]; simp
                rw [hq2] at HHk
                clear HX hq1 hq2
                generalize M ++ N = MN at *
                go_wp2_with (fail)
                refine wp_region_low (hC) (by kernel_rfl) (by kernel_rfl) ?_
                repeat (first
                  | go_big_quiet_skip
                  | (go_big_quiet_want
                     apply Exists.intro
                     refine And.intro (fun W hW => ?_) ?_
                     · (obtain ⟨c0, c1, _⟩ := (HCC W hW).out; have hca := (HCA W hW).out)
                       go_simp
                       first
                         | exact rfl
                         | ((first | (refine (HLKa W (HRR W hW).out).out.mono ?_; rintro e w4 ⟨rfl, hb4⟩; exact ⟨rfl, bl_call hW hb4⟩) | (refine (HHk W (HSS W hW).out).out.mono ?_; rintro e w4 ⟨rfl, rfl⟩; exact ⟨rfl, hW⟩)))
                     try go_simp
                     go_big_quiet_on))
                refine wpQuiet_nil ?_
                intro w9 hb9
                have hown9 := own_call hown hb9
                obtain ⟨B', d', rfl⟩ := own_form hown9
                have hb09 := bl_call hb hb9
                have hsz9 := hb09.size
                clear hown
                go_wp2_with (at_builtin; refine wpList_append_own _ rfl _ _ 37 rfl w1.heap.size 54 i0 _ 2 16 Try.underlying37 hi hz0 hz1 hz2 rfl (by decide) _ _ _ rfl (hown9.alloc _) ⟨w9.heap.size, 0, none⟩ 1 1 [.int .i64 i, .int .i64 k] rfl rfl ?c1 ?c2 ?c3 ?c4 ?c5 ?_)
                case c1 =>
                  intro j u hj
                  match j, hj with
                  | 0, hj => simp at hj; subst hj; simp [Addr.add]
                  | 1, hj => simp at hj; subst hj; simp [Addr.add]
                case c2 => intro u hu; simp at hu; rcases hu with rfl | rfl <;> rfl
                case c3 => unfold maxLen; omega
                case c4 => omega
                case c5 => simp; omega
                intro v2 w4 hown4 hg4 _
                have hbg := grown_below (hown9.alloc (.cells #[.int .i64 i, .int .i64 k] 54)) hg4 (by simp; omega)
                have hb4 : Below w1.heap.size w1 w4 := (bl_alloc hb09 _).trans hbg
                have HO : Hid (w4.ownsRow w1.heap.size 54 2 v2 (M ++ rmTo l p i (k + 1)).length (cellsP (M ++ rmTo l p i (k + 1)))) := by
                  show World.ownsRow _ _ _ _ _ _ _
                  rw [HX'.out, cellsP_snoc, List.length_append]; exact hown4
                clear hown4 hown9
                go_wp2_with (fail)
                go_roundg gj
                case rel => exact ⟨k + 1, by have h := HK.out; show _ = _; omega, by go_num, HO.out, hb4⟩
                case measure => omega
  · have e1 : movesG Z l p = [] := by rw [movesG, if_neg hp]
    rw [e1]
    clear e1
    generalize placeE Z l p = te at *
    go_enter Try.func30, Try.ntmps30
    go_wp2_with (fail)
    refine HV.out.mono ?_
    rintro e w1 ⟨rfl, hb1⟩
    go_wp2_with (fail)
    go_ret2
    exact ⟨none, 0, rfl, World.ownsRow_nil _ _ _ _, bl_call hb0 hb1⟩
end Go.Proofs.Ytjgpfnnokdcgoaa
