/- Near and Moves of package zone, Near of the document. -/
import Derived.Test.YtjgpfnnokdcgoaaMoves
namespace Go.Proofs.Ytjgpfnnokdcgoaa
open Go.RowKit Go.Maps

/-- A list of numbers that is read, and an error. -/
def OutI (l : List Int) (x : Int) (w : World) (e : Ending) (w' : World) : Prop :=
  ∃ A' c', e = .returned (.tuple #[.slice A' l.length c', .int .i64 x]) ∧ w'.ownsRow w.heap.size 3 1 (.slice A' l.length c') l.length (ints l) ∧ Below w.heap.size w w'
/-- A list of moves that is read, and an error. -/
def OutM (l : List (Int × Int)) (x : Int) (w : World) (e : Ending) (w' : World) : Prop :=
  ∃ A' c', e = .returned (.tuple #[.slice A' l.length c', .int .i64 x]) ∧ w'.ownsRow w.heap.size 54 2 (.slice A' l.length c') l.length (cellsP l) ∧ Below w.heap.size w w'

theorem nodup_sub {α : Type} [DecidableEq α] : ∀ {l m : List α}, l.Nodup → (∀ x ∈ l, x ∈ m) → l.length ≤ m.length
  | [], _, _, _ => by simp
  | x :: t, m, hn, hs => by
    rw [List.nodup_cons] at hn
    have hx := hs x (by simp)
    have h := nodup_sub (l := t) (m := m.erase x) hn.2 fun y hy => (List.mem_erase_of_ne (by rintro rfl; exact hn.1 hy)).2 (hs y (List.mem_cons_of_mem _ hy))
    rw [List.length_erase_of_mem hx] at h
    have := List.length_pos_of_mem hx
    rw [List.length_cons]; omega
theorem trap_nat {Z : Int} {l : List (Int × Int)} (h : trapE Z l = 0) : ∃ n : Nat, Z = (n : Int) ∧ 1 ≤ n ∧ n ≤ 6 := by
  obtain ⟨⟨h1, h2⟩, _⟩ := trapE_zero h
  exact ⟨Z.toNat, (Int.toNat_of_nonneg (by omega)).symm, by omega, by omega⟩
/-- A valid trap has at most 36 links. -/
theorem trap_len {Z : Int} {l : List (Int × Int)} (h : trapE Z l = 0) : l.length ≤ 36 := by
  obtain ⟨⟨_, h2⟩, hl, hn⟩ := trapE_zero h
  have hsub : (l.map fun x => (x.1 * 6 + x.2).toNat).Nodup := by
    rw [List.nodup_iff_pairwise_ne, List.pairwise_map]
    refine (List.nodup_iff_pairwise_ne.1 hn).imp_of_mem fun {a b} ha hb hne he => hne ?_
    have h1 := hl a ha
    have h2 := hl b hb
    exact Prod.ext (by omega) (by omega)
  have hr : ∀ y ∈ l.map fun x => (x.1 * 6 + x.2).toNat, y ∈ List.range 36 := fun y hy => by
    obtain ⟨x, hx, rfl⟩ := List.mem_map.1 hy
    have h1 := hl x hx
    rw [List.mem_range]; omega
  have := nodup_sub hsub hr
  simpa using this

def nearG (Z : Int) (l : List (Int × Int)) (z : Int) : List Int := if trapE Z l = 0 ∧ zoneOk Z z = true then nearL l z Z.toNat else []
def nearE (Z : Int) (l : List (Int × Int)) (z : Int) : Int := if trapE Z l = 0 then (if zoneOk Z z then 0 else 4) else trapE Z l
theorem field_net (a b c d e f g : Value) (w : World) : (Instr.field 78 (.agg #[a, b, c, d, e, f, g]) 1).run Try.prog w = .ok (.agg #[b, c, d, e, f, g]) w := by kernel_rfl
theorem idx_net (h0 h1 h2 h3 h4 h5 : Value) (z : Nat) (hz : z < 6) (v : Value) (hv : [h0, h1, h2, h3, h4, h5][z]? = some v) (w : World) : (Instr.index 76 (.agg #[h0, h1, h2, h3, h4, h5]) (.int .i64 z)).run Try.prog w = .ok v w := by
  obtain ⟨i0, i1, i2, i3, i4, i5⟩ := (idx_all h0 h1 h2 h3 h4 h5 w).out
  match z, hz, hv with
  | 0, _, hv => simp at hv; subst hv; exact i0
  | 1, _, hv => simp at hv; subst hv; exact i1
  | 2, _, hv => simp at hv; subst hv; exact i2
  | 3, _, hv => simp at hv; subst hv; exact i3
  | 4, _, hv => simp at hv; subst hv; exact i4
  | 5, _, hv => simp at hv; subst hv; exact i5
theorem TabI.row {w : World} {base k : Nat} {hs : List Value} {ls : List (List Int)} (h : TabI w base hs ls) (hk : k < ls.length) : ∃ A c, hs[k]? = some (.slice A (ls.getD k []).length c) ∧ w.ownsRow base 3 1 (.slice A (ls.getD k []).length c) (ls.getD k []).length (ints (ls.getD k [])) := h.2.1 k hk

set_option maxRecDepth 100000 in
set_option maxHeartbeats 2000000 in
theorem Near_c (Z : Int) (A : Option Addr) (l : List (Int × Int)) (c : Nat) (z : Int) (w : World) (hlen : l.length ≤ 1000) (hr : Rd w A (cellsP l)) :
    Calls Try.prog 20 #[trapV Z A l.length c, .int .i64 z] w (OutI (nearG Z l z) (nearE Z l z) w) := by
  have x0 := Bx.new w 24 #[.int .i64 Z, .slice A l.length c]
  have hb0 := bl_alloc (Below.refl w.heap.size w) (.cells #[.int .i64 Z, .slice A l.length c] 24)
  generalize hw0 : w.alloc (.cells #[.int .i64 Z, .slice A l.length c] 24) = w0 at *
  have HV := Lib.hid (validate_c Z A l c w0 hlen (hr.later hb0))
  by_cases ht : trapE Z l = 0
  · obtain ⟨n, rfl, hn1, hn6⟩ := trap_nat ht
    have hl36 := trap_len ht
    have HI := fun w => Lib.hid (isOneOf_c z n w)
    have HN := fun w1 h => Lib.hid (netOf_c n A l c w1 ht (by omega) h)
    cases hz : zoneOk n z with
    | true =>
      have e1 : nearG n l z = nearL l z n := by rw [nearG, if_pos ⟨ht, hz⟩]; simp
      have e2 : nearE n l z = 0 := by rw [nearE, if_pos ht, hz]; rfl
      rw [e1, e2]
      rw [ht] at HV
      rw [hz] at HI
      obtain ⟨k, rfl⟩ : ∃ k : Nat, z = (k : Int) := ⟨z.toNat, (Int.toNat_of_nonneg (zoneOk_iff.1 hz).1).symm⟩
      have hk6 : k < 6 := by have := (zoneOk_iff.1 hz).2; omega
      have q1 : (0 : Int) ≤ (k : Int) := by omega
      have q2 : (k : Int) < 6 := by omega
      clear e1 e2 hz ht
      go_enter Try.func20, Try.ntmps20
      obtain ⟨c0, c1, _⟩ := x0.two
      go_wp2_with (fail)
      refine HV.out.mono ?_
      rintro e w1 ⟨rfl, hb1⟩
      have hb01 := bl_call hb0 hb1
      clear c0 c1
      obtain ⟨c0, c1, _⟩ := (x0.call hb1).two
      go_wp2_with (fail)
      refine (HI _).out.mono ?_
      rintro e w2 ⟨rfl, rfl⟩
      go_wp2_with (fail)
      refine (HN _ (hr.later hb01)).out.mono ?_
      rintro e w2 ⟨h0, h1, h2, h3, h4, h5, rfl, htb, hb2⟩
      obtain ⟨A', c', f1, f2⟩ := htb.row (k := k) (by simpa using hk6)
      have e : ((List.range 6).map fun z : Nat => nearL l (z : Int) n).getD k [] = nearL l (k : Int) n := by simp [hk6]
      rw [e] at f1 f2
      have hidx := idx_net h0 h1 h2 h3 h4 h5 k hk6 _ f1 w2
      have hfld := field_net (.int .i64 n) h0 h1 h2 h3 h4 h5 w2
      have hb02 := bl_call hb01 hb2
      clear htb f1 e
      generalize nearL l (k : Int) n = L at *
      go_wp2_with (fail)
      go_ret2
      exact ⟨A', c', rfl, own_base f2 hb01.size, hb02⟩
    | false =>
      have e1 : nearG n l z = [] := by rw [nearG, if_neg (by rw [hz]; simp)]
      have e2 : nearE n l z = 4 := by rw [nearE, if_pos ht, hz]; rfl
      rw [e1, e2]
      rw [ht] at HV
      rw [hz] at HI
      clear e1 e2 hz ht
      go_enter Try.func20, Try.ntmps20
      obtain ⟨c0, c1, _⟩ := x0.two
      go_wp2_with (fail)
      refine HV.out.mono ?_
      rintro e w1 ⟨rfl, hb1⟩
      have hb01 := bl_call hb0 hb1
      clear c0 c1
      obtain ⟨c0, c1, _⟩ := (x0.call hb1).two
      go_wp2_with (fail)
      refine (HI _).out.mono ?_
      rintro e w2 ⟨rfl, rfl⟩
      go_wp2_with (fail)
      go_ret2
      exact ⟨none, 0, rfl, World.ownsRow_nil _ _ _ _, hb01⟩
  · have e1 : nearG Z l z = [] := by rw [nearG, if_neg (fun h => ht h.1)]
    have e2 : nearE Z l z = trapE Z l := by rw [nearE, if_neg ht]
    rw [e1, e2]
    clear e1 e2
    generalize trapE Z l = te at *
    go_enter Try.func20, Try.ntmps20
    obtain ⟨c0, c1, _⟩ := x0.two
    go_wp2_with (fail)
    refine HV.out.mono ?_
    rintro e w1 ⟨rfl, hb1⟩
    go_wp2_with (fail)
    go_ret2
    exact ⟨none, 0, rfl, World.ownsRow_nil _ _ _ _, bl_call hb0 hb1⟩

set_option maxRecDepth 100000 in
set_option maxHeartbeats 2000000 in
theorem rNear_c (Z : Int) (A : Option Addr) (l : List (Int × Int)) (c : Nat) (z : Int) (w : World) (hlen : l.length ≤ 1000) (hr : Rd w A (cellsP l)) :
    Calls Try.prog 21 #[trapV Z A l.length c, .int .i64 z] w (OutI (nearG Z l z) (nearE Z l z) w) := by
  have x0 := Bx.new w 24 #[.int .i64 Z, .slice A l.length c]
  have hb0 := bl_alloc (Below.refl w.heap.size w) (.cells #[.int .i64 Z, .slice A l.length c] 24)
  generalize hw0 : w.alloc (.cells #[.int .i64 Z, .slice A l.length c] 24) = w0 at *
  have HV := Lib.hid (rvalidate_c Z A l c w0 hlen (hr.later hb0))
  by_cases ht : trapE Z l = 0
  · obtain ⟨n, rfl, hn1, hn6⟩ := trap_nat ht
    have HN := fun w1 h => Lib.hid (rnear_c n A l c z w1 hlen (by omega) h)
    rw [ht] at HV
    have hzi := @zoneOk_iff (n : Int) z
    by_cases hz0 : z < 0
    · have hz : ¬ zoneOk n z = true := fun h => by have := hzi.1 h; omega
      have e1 : nearG n l z = [] := by rw [nearG, if_neg (fun h => hz h.2)]
      have e2 : nearE n l z = 4 := by rw [nearE, if_pos ht, if_neg hz]
      rw [e1, e2]
      clear e1 e2 hz hzi ht
      go_enter Try.func21, Try.ntmps21
      obtain ⟨c0, c1, _⟩ := x0.two
      go_wp2_with (fail)
      refine HV.out.mono ?_
      rintro e w1 ⟨rfl, hb1⟩
      clear c0 c1
      obtain ⟨c0, c1, _⟩ := (x0.call hb1).two
      go_wp2_with (fail)
      go_ret2
      exact ⟨none, 0, rfl, World.ownsRow_nil _ _ _ _, bl_call hb0 hb1⟩
    · by_cases hzn : (n : Int) ≤ z
      · have hz : ¬ zoneOk n z = true := fun h => by have := hzi.1 h; omega
        have e1 : nearG n l z = [] := by rw [nearG, if_neg (fun h => hz h.2)]
        have e2 : nearE n l z = 4 := by rw [nearE, if_pos ht, if_neg hz]
        rw [e1, e2]
        clear e1 e2 hz hzi ht
        go_enter Try.func21, Try.ntmps21
        obtain ⟨c0, c1, _⟩ := x0.two
        go_wp2_with (fail)
        refine HV.out.mono ?_
        rintro e w1 ⟨rfl, hb1⟩
        clear c0 c1
        obtain ⟨c0, c1, _⟩ := (x0.call hb1).two
        go_wp2_with (fail)
        go_ret2
        exact ⟨none, 0, rfl, World.ownsRow_nil _ _ _ _, bl_call hb0 hb1⟩
      · have hz : zoneOk n z = true := hzi.2 (by omega)
        have e1 : nearG n l z = nearL l z n := by rw [nearG, if_pos ⟨ht, hz⟩]; simp
        have e2 : nearE n l z = 0 := by rw [nearE, if_pos ht, if_pos hz]
        rw [e1, e2]
        clear e1 e2 hz hzi ht
        generalize nearL l z n = L at *
        go_enter Try.func21, Try.ntmps21
        obtain ⟨c0, c1, _⟩ := x0.two
        go_wp2_with (fail)
        refine HV.out.mono ?_
        rintro e w1 ⟨rfl, hb1⟩
        have hb01 := bl_call hb0 hb1
        clear c0 c1
        obtain ⟨c0, c1, _⟩ := (x0.call hb1).two
        go_wp2_with (fail)
        refine (HN _ (hr.later hb01)).out.mono ?_
        rintro e w2 ⟨A', c', rfl, ho, hb2⟩
        go_wp2_with (fail)
        go_ret2
        exact ⟨A', c', rfl, own_base ho hb01.size, bl_call hb01 hb2⟩
  · have e1 : nearG Z l z = [] := by rw [nearG, if_neg (fun h => ht h.1)]
    have e2 : nearE Z l z = trapE Z l := by rw [nearE, if_neg ht]
    rw [e1, e2]
    clear e1 e2
    generalize trapE Z l = te at *
    go_enter Try.func21, Try.ntmps21
    obtain ⟨c0, c1, _⟩ := x0.two
    go_wp2_with (fail)
    refine HV.out.mono ?_
    rintro e w1 ⟨rfl, hb1⟩
    go_wp2_with (fail)
    go_ret2
    exact ⟨none, 0, rfl, World.ownsRow_nil _ _ _ _, bl_call hb0 hb1⟩

theorem nodup_le {Z : Nat} {p : List Int} (hn : p.Nodup) (hin : ∀ x ∈ p, 0 ≤ x ∧ x < (Z : Int)) : p.length ≤ Z := by
  have h := nodup_sub (l := p) (m := (List.range Z).map fun n : Nat => (n : Int)) hn fun x hx => by
    have := hin x hx
    exact List.mem_map.2 ⟨x.toNat, by rw [List.mem_range]; omega, Int.toNat_of_nonneg this.1⟩
  simpa using h
def movesG (Z : Int) (l : List (Int × Int)) (p : List Int) : List (Int × Int) := if placeE Z l p = 0 then mvTo l Z.toNat p p.length else []

set_option maxRecDepth 100000 in
set_option maxHeartbeats 2000000 in
theorem Moves_c (Z : Int) (A B : Option Addr) (l : List (Int × Int)) (p : List Int) (c d : Nat) (w : World) (hlen : l.length ≤ 1000) (hlen' : p.length ≤ 1000) (hr : Rd w A (cellsP l)) (hs : Rd w B (ints p)) :
    Calls Try.prog 29 #[trapV Z A l.length c, .slice B p.length d] w (OutM (movesG Z l p) (placeE Z l p) w) := by
  have x0 := Bx.new w 24 #[.int .i64 Z, .slice A l.length c]
  have hb0 := bl_alloc (Below.refl w.heap.size w) (.cells #[.int .i64 Z, .slice A l.length c] 24)
  generalize hw0 : w.alloc (.cells #[.int .i64 Z, .slice A l.length c] 24) = w0 at *
  have HV := Lib.hid (place_c Z A B l p c d w0 hlen hlen' (hr.later hb0) (hs.later hb0))
  by_cases hp : placeE Z l p = 0
  · obtain ⟨ht, hp4, hin, hnd⟩ := placeE_zero hp
    obtain ⟨n, rfl, hn1, hn6⟩ := trap_nat ht
    have hl36 := trap_len ht
    have hpn := nodup_le hnd hin
    have HN := fun w1 h => Lib.hid (netOf_c n A l c w1 ht (by omega) h)
    have HM := fun h0 h1 h2 h3 h4 h5 w1 h hh => Lib.hid (moves_c n l h0 h1 h2 h3 h4 h5 B p d w1 hn6 hp4 hpn hin h hh)
    have e1 : movesG n l p = mvTo l n p p.length := by rw [movesG, if_pos hp]; simp
    rw [e1]
    rw [hp] at HV ⊢
    clear e1 hp hin hnd ht
    generalize mvTo l n p p.length = M at *
    go_enter Try.func29, Try.ntmps29
    obtain ⟨c0, c1, _⟩ := x0.two
    go_wp2_with (fail)
    refine HV.out.mono ?_
    rintro e w1 ⟨rfl, hb1⟩
    have hb01 := bl_call hb0 hb1
    clear c0 c1
    obtain ⟨c0, c1, _⟩ := (x0.call hb1).two
    go_wp2_with (fail)
    refine (HN _ (hr.later hb01)).out.mono ?_
    rintro e w2 ⟨h0, h1, h2, h3, h4, h5, rfl, htb, hb2⟩
    have hb02 := bl_call hb01 hb2
    go_wp2_with (fail)
    refine (HM h0 h1 h2 h3 h4 h5 _ (NetR.of htb) (hs.later hb02)).out.mono ?_
    rintro e w3 ⟨A', c', rfl, ho, hb3⟩
    go_wp2_with (fail)
    go_ret2
    exact ⟨A', c', rfl, own_base ho hb02.size, bl_call hb02 hb3⟩
  · have e1 : movesG Z l p = [] := by rw [movesG, if_neg hp]
    rw [e1]
    clear e1
    generalize placeE Z l p = te at *
    go_enter Try.func29, Try.ntmps29
    obtain ⟨c0, c1, _⟩ := x0.two
    go_wp2_with (fail)
    refine HV.out.mono ?_
    rintro e w1 ⟨rfl, hb1⟩
    go_wp2_with (fail)
    go_ret2
    exact ⟨none, 0, rfl, World.ownsRow_nil _ _ _ _, bl_call hb0 hb1⟩
end Go.Proofs.Ytjgpfnnokdcgoaa
