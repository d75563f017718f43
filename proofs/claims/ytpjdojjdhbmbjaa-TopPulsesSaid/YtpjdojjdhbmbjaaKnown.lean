/- What the statements ask of three pulses that are known. -/
import Derived.Test.YtpjdojjdhbmbjaaVals
import Derived.Test.YtpjdojjdhbmbjaaShort
namespace Go.Proofs.Ytpjdojjdhbmbjaa
open Go.RowKit

theorem known_area : areaG [1, 1, 1, 1] 1 = 2 ∧ inE [1, 1, 1, 1] 1 = 0 ∧ sumG [1, 1, 1, 1] 1 = (2, 2) ∧ searchE [1] 1 1 = 0 := by decide +kernel
theorem known_1 : (closedL [1] 1 1).any pushB = false := by decide +kernel
theorem known_2 : (closedL [1] 1 2).any pushB = false := by decide +kernel
theorem known_3 : (closedL [1] 1 3).any pushB = true := by decide +kernel
theorem known_short (n : Int) (b : Bool) (h : ShortIs [1] 1 n b) : n = 3 ∧ b = true := by
  rcases h.1 known_area.2.2.2 with ⟨L, h1, h2, rfl, rfl, h3, h4⟩ | ⟨rfl, rfl, h4⟩
  · have h5 : ¬ 3 < L := fun h => by have := h4 3 (by omega) h; rw [show (1 : Int).toNat = 1 from rfl, known_3] at this; cases this
    have h6 : L ≠ 1 := by rintro rfl; rw [show (1 : Int).toNat = 1 from rfl, known_1] at h3; cases h3
    have h7 : L ≠ 2 := by rintro rfl; rw [show (1 : Int).toNat = 1 from rfl, known_2] at h3; cases h3
    exact ⟨by omega, rfl⟩
  · have := h4 3 (by omega) (by omega); rw [show (1 : Int).toNat = 1 from rfl, known_3] at this; cases this

theorem rd_new (w : World) (xs : List Int) : Rd (w.alloc (.cells (ints xs).toArray 3)) (some ⟨w.heap.size, 0, none⟩) (ints xs) := Row.rd (Bx.new w _ _)

set_option maxHeartbeats 1000000 in
theorem known_c (w : World) : Calls Try.prog 18 #[] w fun e w' => e = .returned (.bool true) ∧ Below w.heap.size w w' := by
  have ha : ∀ w : World, Hid (Calls Try.prog 26 #[.slice (some ⟨w.heap.size, 0, none⟩) 4 4, .int .i64 1] (w.alloc (.cells #[.int .i64 1, .int .i64 1, .int .i64 1, .int .i64 1] 3)) fun e w' => e = .returned (.tuple #[.int .i64 2, .int .i64 0]) ∧ Below w.heap.size w w') := fun w =>
    (area_c _ [1, 1, 1, 1] 4 1 _ (by simp) (rd_new w [1, 1, 1, 1])).mono fun e w' ⟨he, hb⟩ => ⟨by rw [he, known_area.1, known_area.2.1], bl_call (bl_alloc (Below.refl _ _) _) hb⟩
  have hs : ∀ w : World, Hid (Calls Try.prog 28 #[.slice (some ⟨w.heap.size, 0, none⟩) 4 4, .int .i64 1] (w.alloc (.cells #[.int .i64 1, .int .i64 1, .int .i64 1, .int .i64 1] 3)) fun e w' => e = .returned (.tuple #[.agg #[.int .i64 2, .int .i64 2], .int .i64 0]) ∧ Below w.heap.size w w') := fun w =>
    (sum_c _ [1, 1, 1, 1] 4 1 _ (by simp) (rd_new w [1, 1, 1, 1])).mono fun e w' ⟨u, v, he, huv, hb⟩ => ⟨by rw [known_area.2.2.1] at huv; cases huv; rw [he, known_area.2.1], bl_call (bl_alloc (Below.refl _ _) _) hb⟩
  have hk : ∀ w : World, Hid (Calls Try.prog 54 #[.slice (some ⟨w.heap.size, 0, none⟩) 1 1, .int .i64 1] (w.alloc (.cells #[.int .i64 1] 3)) fun e w' => e = .returned (.tuple #[.int .i64 3, .bool true, .int .i64 0]) ∧ Below w.heap.size w w') := fun w =>
    (shortest_c _ [1] 1 1 _ (by simp) (rd_new w [1])).mono fun e w' ⟨n, b, he, h, hb⟩ => ⟨by obtain ⟨rfl, rfl⟩ := known_short n b h; rw [he, known_area.2.2.2], bl_call (bl_alloc (Below.refl _ _) _) hb⟩
  go_enter Try.func18, Try.ntmps18
  go_wp2_with (fail)
  refine (ha w).out.mono ?_
  rintro e w1 ⟨rfl, hb1⟩
  go_wp2_with (fail)
  refine (hs w1).out.mono ?_
  rintro e w2 ⟨rfl, hb2⟩
  have hb2' := bl_call hb1 hb2
  go_wp2_with (fail)
  have x0 := Bx.new w2 30 #[.int .i64 2, .int .i64 2]
  have hk2 := (hk (w2.alloc (.cells #[.int .i64 2, .int .i64 2] 30))).out
  simp only [World.size_alloc] at hk2
  refine hk2.mono ?_
  rintro e w3 ⟨rfl, hb3⟩
  have hb3' : Below (w2.alloc (.cells #[.int .i64 2, .int .i64 2] 30)).heap.size (w2.alloc (.cells #[.int .i64 2, .int .i64 2] 30)) w3 := by rw [World.size_alloc]; exact hb3
  obtain ⟨h1, h2, h3, h4⟩ := (x0.call hb3').two
  go_wp2_with (fail)
  go_ret
  exact ⟨rfl, (bl_alloc hb2' _).trans (hb3.mono (by have := hb2'.size; omega))⟩
end Go.Proofs.Ytpjdojjdhbmbjaa
