/- How far a place is from another one. -/
import Derived.Test.YtjgpfnnokdcgoaaFindZ
namespace Go.Proofs.Ytjgpfnnokdcgoaa
open Go.RowKit Go.Maps

/-- The error of two places. -/
def bothE (Z : Int) (l : List (Int × Int)) (p q : List Int) : Int := if placeE Z l p = 0 then (if placeE Z l q = 0 then (if p.length = q.length then 0 else 5) else placeE Z l q) else placeE Z l p
theorem bothE_zero {Z : Int} {l : List (Int × Int)} {p q : List Int} (h : bothE Z l p q = 0) : placeE Z l p = 0 ∧ placeE Z l q = 0 ∧ q.length = p.length := by
  rw [bothE] at h
  by_cases h1 : placeE Z l p = 0
  · rw [if_pos h1] at h
    by_cases h2 : placeE Z l q = 0
    · rw [if_pos h2] at h
      by_cases h3 : p.length = q.length
      · exact ⟨h1, h2, h3.symm⟩
      · rw [if_neg h3] at h; exact absurd h (by decide)
    · rw [if_neg h2] at h; exact absurd h h2
  · rw [if_neg h1] at h; exact absurd h h1

set_option maxRecDepth 100000 in
set_option maxHeartbeats 2000000 in
theorem both_c (Z : Int) (A B C : Option Addr) (l : List (Int × Int)) (p q : List Int) (c d f : Nat) (w : World) (hlen : l.length ≤ 1000) (hlen' : p.length ≤ 1000) (hlen2 : q.length ≤ 1000) (hr : Rd w A (cellsP l)) (hs : Rd w B (ints p)) (hs2 : Rd w C (ints q)) :
    Calls Try.prog 72 #[trapV Z A l.length c, .slice B p.length d, .slice C q.length f] w fun e w' => e = .returned (.int .i64 (bothE Z l p q)) ∧ Below w.heap.size w w' := by
  have x0 := Bx.new w 24 #[.int .i64 Z, .slice A l.length c]
  have hb0 := bl_alloc (Below.refl w.heap.size w) (.cells #[.int .i64 Z, .slice A l.length c] 24)
  generalize hw0 : w.alloc (.cells #[.int .i64 Z, .slice A l.length c] 24) = w0 at *
  have HV := Lib.hid (place_c Z A B l p c d w0 hlen hlen' (hr.later hb0) (hs.later hb0))
  have HW := fun w1 h h' => Lib.hid (place_c Z A C l q c f w1 hlen hlen2 h h')
  have hE : Hid (bothE Z l p q = if placeE Z l p = 0 then (if placeE Z l q = 0 then (if p.length = q.length then 0 else 5) else placeE Z l q) else placeE Z l p) := rfl
  obtain ⟨c0, c1, _⟩ := x0.two
  generalize bothE Z l p q = E at *
  generalize placeE Z l p = e1 at *
  generalize placeE Z l q = e2 at *
  by_cases h1 : e1 = 0
  · subst h1
    by_cases h2 : e2 = 0
    · subst h2
      by_cases h3 : p.length = q.length
      · have hE0 := hE.out
        rw [if_pos rfl, if_pos rfl, if_pos h3] at hE0
        subst hE0
        have h3' : ((p.length : Int) != (q.length : Int)) = false := by simp [h3]
        clear hE h3
        go_enter Try.func72, Try.ntmps72
        go_wp2_with (fail)
        refine HV.out.mono ?_
        rintro e w1 ⟨rfl, hb1⟩
        have hb01 := bl_call hb0 hb1
        clear c0 c1
        obtain ⟨c0, c1, _⟩ := (x0.call hb1).two
        go_wp2_with (fail)
        refine (HW _ (hr.later hb01) (hs2.later hb01)).out.mono ?_
        rintro e w2 ⟨rfl, hb2⟩
        go_wp2_with (fail)
        go_ret
        exact ⟨rfl, bl_call hb01 hb2⟩
      · have hE0 := hE.out
        rw [if_pos rfl, if_pos rfl, if_neg h3] at hE0
        subst hE0
        have h3' : ((p.length : Int) != (q.length : Int)) = true := by simp; omega
        clear hE h3
        go_enter Try.func72, Try.ntmps72
        go_wp2_with (fail)
        refine HV.out.mono ?_
        rintro e w1 ⟨rfl, hb1⟩
        have hb01 := bl_call hb0 hb1
        clear c0 c1
        obtain ⟨c0, c1, _⟩ := (x0.call hb1).two
        go_wp2_with (fail)
        refine (HW _ (hr.later hb01) (hs2.later hb01)).out.mono ?_
        rintro e w2 ⟨rfl, hb2⟩
        go_wp2_with (fail)
        go_ret
        exact ⟨rfl, bl_call hb01 hb2⟩
    · have hE0 := hE.out
      rw [if_pos rfl, if_neg h2] at hE0
      subst hE0
      clear hE
      go_enter Try.func72, Try.ntmps72
      go_wp2_with (fail)
      refine HV.out.mono ?_
      rintro e w1 ⟨rfl, hb1⟩
      have hb01 := bl_call hb0 hb1
      clear c0 c1
      obtain ⟨c0, c1, _⟩ := (x0.call hb1).two
      go_wp2_with (fail)
      refine (HW _ (hr.later hb01) (hs2.later hb01)).out.mono ?_
      rintro e w2 ⟨rfl, hb2⟩
      go_wp2_with (fail)
      go_ret
      exact ⟨rfl, bl_call hb01 hb2⟩
  · have hE0 := hE.out
    rw [if_neg h1] at hE0
    subst hE0
    clear hE
    go_enter Try.func72, Try.ntmps72
    go_wp2_with (fail)
    refine HV.out.mono ?_
    rintro e w1 ⟨rfl, hb1⟩
    go_wp2_with (fail)
    go_ret
    exact ⟨rfl, bl_call hb0 hb1⟩

/-- The first arrival at a place, if both are right. -/
def arrG (Z : Int) (l : List (Int × Int)) (p q : List Int) : Option Nd := if bothE Z l p q = 0 then findL (reachL l Z.toNat p) q else none
def farV (o : Option Nd) : Int := match o with | some a => (a.2.length : Int) | none => 0

set_option maxRecDepth 100000 in
set_option maxHeartbeats 2000000 in
theorem Far_c (Z : Int) (A B C : Option Addr) (l : List (Int × Int)) (p q : List Int) (c d f : Nat) (w : World) (hlen : l.length ≤ 1000) (hlen' : p.length ≤ 1000) (hlen2 : q.length ≤ 1000) (hr : Rd w A (cellsP l)) (hs : Rd w B (ints p)) (hs2 : Rd w C (ints q)) :
    Calls Try.prog 36 #[trapV Z A l.length c, .slice B p.length d, .slice C q.length f] w fun e w' => e = .returned (.tuple #[.int .i64 (farV (arrG Z l p q)), .bool (arrG Z l p q).isSome, .int .i64 (bothE Z l p q)]) ∧ Below w.heap.size w w' := by
  have x0 := Bx.new w 24 #[.int .i64 Z, .slice A l.length c]
  have hb0 := bl_alloc (Below.refl w.heap.size w) (.cells #[.int .i64 Z, .slice A l.length c] 24)
  generalize hw0 : w.alloc (.cells #[.int .i64 Z, .slice A l.length c] 24) = w0 at *
  have HV := Lib.hid (both_c Z A B C l p q c d f w0 hlen hlen' hlen2 (hr.later hb0) (hs.later hb0) (hs2.later hb0))
  obtain ⟨c0, c1, _⟩ := x0.two
  by_cases hp : bothE Z l p q = 0
  · obtain ⟨hpp, hqq, hql⟩ := bothE_zero hp
    obtain ⟨ht, hp4, hin, hnd⟩ := placeE_zero hpp
    obtain ⟨n, rfl, hn1, hn6⟩ := trap_nat ht
    have hpn := nodup_le hnd hin
    have HF := fun w1 h hh hhh => Lib.hid (find_c n A B C l p q c d f w1 ht hp4 hpn hin hql h hh hhh)
    have e1 : arrG n l p q = findL (reachL l n p) q := by rw [arrG, if_pos hp]; simp
    rw [e1, hp]
    rw [hp] at HV
    clear e1 hp hpp hqq hql hin hnd ht
    unfold OutF at HF
    generalize findL (reachL l n p) q = o at *
    go_enter Try.func36, Try.ntmps36
    go_wp2_with (fail)
    refine HV.out.mono ?_
    rintro e w1 ⟨rfl, hb1⟩
    have hb01 := bl_call hb0 hb1
    clear c0 c1
    obtain ⟨c0, c1, _⟩ := (x0.call hb1).two
    go_wp2_with (fail)
    refine (HF _ (hr.later hb01) (hs.later hb01) (hs2.later hb01)).out.mono ?_
    rintro e w2 ⟨hv, hb2⟩
    rcases hv with ⟨rfl, rfl⟩ | ⟨g, a, B3, rfl, rfl, _, har⟩
    · go_wp2_with (fail)
      go_ret3
      exact ⟨rfl, bl_call hb01 hb2⟩
    · obtain ⟨bf, m1, m2, yg⟩ := har.box
      have n4 := yg.cell 4
      have hgl := yg.lt
      simp at n4
      go_wp2_with (fail)
      go_ret3
      exact ⟨rfl, bl_call hb01 hb2⟩
  · have e1 : arrG Z l p q = none := by rw [arrG, if_neg hp]
    rw [e1]
    clear e1
    generalize bothE Z l p q = te at *
    go_enter Try.func36, Try.ntmps36
    go_wp2_with (fail)
    refine HV.out.mono ?_
    rintro e w1 ⟨rfl, hb1⟩
    go_wp2_with (fail)
    go_ret3
    exact ⟨rfl, bl_call hb0 hb1⟩
end Go.Proofs.Ytjgpfnnokdcgoaa
