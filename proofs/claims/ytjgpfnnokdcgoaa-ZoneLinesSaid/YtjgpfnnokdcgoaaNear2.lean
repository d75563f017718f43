/- Package zone: Near, linked; the document's Near. -/
import Derived.Test.YtjgpfnnokdcgoaaNetOf
import Derived.Test.YtjgpfnnokdcgoaaIdx
namespace Go.Proofs.Ytjgpfnnokdcgoaa
open Go.RowKit Go.Maps

/-- hs are slices that read as the near zones of each zone. -/
def NetR (w : World) (Z : Nat) (l : List (Int × Int)) (hs : List Value) : Prop :=
  ∀ z : Nat, z < 6 → ∃ A c, hs[z]? = some (.slice A (nearL l z Z).length c) ∧ (nearL l z Z).length ≤ c ∧ Rd w A (ints (nearL l z Z))
theorem near_le (l : List (Int × Int)) (z : Int) (Z : Nat) : (nearL l z Z).length ≤ Z := upTo_len _ _
theorem own_capZ {w : World} {base e size n c : Nat} {A : Option Addr} {xs : List Value} (h : w.ownsRow base e size (.slice A n c) n xs) : n ≤ c := by
  rcases h.2 with ⟨h0, _⟩ | ⟨g, cap, cur, hv, _, _, hle, _, _, _⟩
  · injection h0 with _ h1 h2; omega
  · injection hv with _ _ h2; omega
theorem NetR.of {w : World} {Z base : Nat} {l : List (Int × Int)} {hs : List Value} (h : TabI w base hs ((List.range 6).map fun z : Nat => nearL l (z : Int) Z)) : NetR w Z l hs := fun z hz => by
  obtain ⟨A, c, h1, h2⟩ := h.2.1 z (by simpa using hz)
  have e : ((List.range 6).map fun z : Nat => nearL l (z : Int) Z).getD z [] = nearL l (z : Int) Z := by simp [hz]
  rw [e] at h1 h2
  exact ⟨A, c, h1, own_capZ h2, (own_rd h2).1⟩
theorem NetR.later {w w' : World} {Z : Nat} {l : List (Int × Int)} {hs : List Value} (h : NetR w Z l hs) (hb : Below w.heap.size w w') : NetR w' Z l hs := fun z hz => by
  obtain ⟨A, c, h1, h2, h3⟩ := h z hz
  exact ⟨A, c, h1, h2, h3.later hb⟩
/-- The cell of a boxed net that holds the near zones of a zone. -/
theorem net_cell {w : World} {g z : Nat} {Z v : Value} {hs : List Value} (h : Bx w g 78 (Z :: hs).toArray) (hv : hs[z]? = some v) : w.cell? ⟨g, 1 + z, none⟩ = some v :=
  (h.cell (1 + z)).trans (by rw [Nat.add_comm]; simpa using hv)
theorem near_has {l : List (Int × Int)} {a b : Int} {Z : Nat} : (nearL l a Z).contains b = (zoneOk Z b && linkB l a b) := by
  rw [Bool.eq_iff_iff]
  simp only [List.contains_iff_mem, nearL, upTo_mem, Bool.and_eq_true, zoneOk_iff]
  constructor
  · rintro ⟨h1, h2, h3⟩; exact ⟨⟨h1, h2⟩, h3⟩
  · rintro ⟨⟨h1, h2⟩, h3⟩; exact ⟨h1, h2, h3⟩

set_option maxRecDepth 100000 in
set_option maxHeartbeats 2000000 in
theorem linked_c (Z : Nat) (l : List (Int × Int)) (h0 h1 h2 h3 h4 h5 : Value) (a : Nat) (b : Int) (w : World) (ha : a < 6) (hZ : Z ≤ 6) (hn : NetR w Z l [h0, h1, h2, h3, h4, h5]) :
    Calls Try.prog 92 #[.agg #[.int .i64 Z, h0, h1, h2, h3, h4, h5], .int .i64 a, .int .i64 b] w fun e w' => e = .returned (.bool (zoneOk Z b && linkB l a b)) ∧ Below w.heap.size w w' := by
  have x0 := Bx.new w 78 #[.int .i64 Z, h0, h1, h2, h3, h4, h5]
  have hb0 := bl_alloc (Below.refl w.heap.size w) (.cells #[.int .i64 Z, h0, h1, h2, h3, h4, h5] 78)
  generalize hw0 : w.alloc (.cells #[.int .i64 Z, h0, h1, h2, h3, h4, h5] 78) = w0 at *
  obtain ⟨A, c, e1, _, hr⟩ := hn a ha
  have HC := Lib.hid (contains_c A (nearL l a Z) c b w0 (by have := near_le l a Z; omega) (hr.later hb0))
  rw [near_has] at HC
  have q1 := net_cell (hs := [h0, h1, h2, h3, h4, h5]) x0 e1
  have q2 : (a : Int) < 6 := by omega
  generalize (zoneOk Z b && linkB l a b) = r at *
  generalize nearL l a Z = L at *
  clear e1 x0
  go_enter Try.func92, Try.ntmps92
  go_wp2_with (fail)
  refine HC.out.mono ?_
  rintro e w1 ⟨rfl, hb1⟩
  go_wp2_with (fail)
  go_ret
  exact ⟨rfl, bl_call hb0 hb1⟩
end Go.Proofs.Ytjgpfnnokdcgoaa
