/- Jobs changed one by one: what is right then. Lists and numbers alone. -/
import Derived.Test.YtiffgaelndajpaaClkT
namespace Go.Proofs.Ytiffgaelndajpaa

def mapTo (g : T3 → T3) (l : List T3) (k : Nat) : List T3 := (l.take k).map g ++ l.drop k
theorem mapTo_len {g : T3 → T3} {l : List T3} {k : Nat} (h : k ≤ l.length) : (mapTo g l k).length = l.length := by simp [mapTo]; omega
theorem mapTo_zero (g : T3 → T3) (l : List T3) : mapTo g l 0 = l := by simp [mapTo]
theorem mapTo_end (g : T3 → T3) (l : List T3) : mapTo g l l.length = l.map g := by simp [mapTo]
theorem mapTo_set {g : T3 → T3} {l : List T3} {k : Nat} (h : k < l.length) : (mapTo g l k).set k (g (l.getD k t0)) = mapTo g l (k + 1) := by
  have h1 : ((l.take k).map g).length = k := by simp; omega
  have h2 : l.getD k t0 = l[k] := by simp [h]
  rw [mapTo, List.set_append_right _ _ (by omega), h1, Nat.sub_self, List.drop_eq_getElem_cons h, List.set_cons_zero, mapTo, List.take_succ_eq_append_getElem h, h2, List.map_append, List.append_assoc]
  rfl
/-- The errors, and the list. -/
def chgE (g : T3 → T3) (l : List T3) : Int := if validE l = 0 then validE (l.map g) else validE l
def chgL (g : T3 → T3) (l : List T3) : List T3 := if chgE g l = 0 then l.map g else []
/-- The document's: numbers added. -/
def movE (f b : Int) (l : List T3) : Int := if validE l = 0 then (if 0 < l.length ∧ inB b (-60) 60 = false then 1 else validE (l.map (addJ f b))) else validE l
def movL (f b : Int) (l : List T3) : List T3 := if movE f b l = 0 then l.map (addJ f b) else []
theorem validE_one {l : List T3} (h8 : l.length ≤ 8) {k : Nat} (hk : k < l.length) (h : jobB (l.getD k t0) = false) : validE l = 1 := by
  rw [validE, if_pos h8, jobsE, all_no hk h]; rfl
/-- Numbers that wrap round are no jobs' either. -/
theorem chg_mov {g : T3 → T3} {f b : Int} {l : List T3}
    (hsame : inB b (-60) 60 = true → ∀ j, Job4 j → g j = addJ f b j) (hbad : inB b (-60) 60 = false → ∀ j, Job4 j → jobB (g j) = false) : chgE g l = movE f b l ∧ chgL g l = movL f b l := by
  have hE : chgE g l = movE f b l := by
    unfold chgE movE
    by_cases hv : validE l = 0
    · rw [if_pos hv, if_pos hv]
      have hl := validE_ok.1 hv
      cases hb : inB b (-60) 60 with
      | true =>
        rw [if_neg (by simp)]
        congr 1
        exact List.map_congr_left fun j hj => hsame hb j (hl.jobs j hj)
      | false =>
        by_cases hn : 0 < l.length
        · rw [if_pos ⟨hn, rfl⟩]
          refine validE_one (k := 0) (by simpa using hl.len) (by simpa using hn) ?_
          rw [map_getD g hn]
          exact hbad hb _ (hl.jobs.get hn)
        · rw [if_neg fun h => hn h.1, List.length_eq_zero_iff.1 (show l.length = 0 by omega)]; rfl
    · rw [if_neg hv, if_neg hv]
  refine ⟨hE, ?_⟩
  unfold chgL movL
  rw [hE]
  split
  · rename_i h0
    unfold movE at h0
    split at h0
    · rename_i hv
      have hl := validE_ok.1 hv
      split at h0
      · cases h0
      · rename_i hn
        cases hb : inB b (-60) 60 with
        | true => exact List.map_congr_left fun j hj => hsame hb j (hl.jobs j hj)
        | false =>
          by_cases hz : 0 < l.length
          · exact absurd ⟨hz, hb⟩ hn
          · rw [List.length_eq_zero_iff.1 (show l.length = 0 by omega)]; rfl
    · rename_i hv
      exact absurd h0 hv
  · rfl
theorem movE_zero {f b : Int} {l : List T3} (h : movE f b l = 0) : Ok l ∧ Ok (l.map (addJ f b)) ∧ (0 < l.length → -60 ≤ b ∧ b ≤ 60) := by
  unfold movE at h
  split at h
  · rename_i hv
    split at h
    · cases h
    · rename_i hn
      refine ⟨validE_ok.1 hv, validE_ok.1 h, fun hz => ?_⟩
      cases hb : inB b (-60) 60 with
      | true => exact inB_z.1 hb
      | false => exact absurd ⟨hz, hb⟩ hn
  · rename_i hv
    exact absurd h hv
theorem chg_turn (l : List T3) : chgE turnJ l = validE l ∧ chgL turnJ l = if validE l = 0 then l.map turnJ else [] := by
  have e : chgE turnJ l = validE l := by
    unfold chgE
    split
    · rename_i h; rw [h]; exact validE_ok.2 (turn_ok (validE_ok.1 h))
    · rfl
  exact ⟨e, by rw [chgL, e]⟩
/-- A list without one. -/
def witE (l : List T3) (k : Int) : Int := if validE l = 0 then (if 0 ≤ k ∧ k < (l.length : Int) then 0 else 4) else validE l
def witL (l : List T3) (k : Int) : List T3 := if witE l k = 0 then l.eraseIdx k.toNat else []
theorem witE_zero {l : List T3} {k : Int} : witE l k = 0 ↔ validE l = 0 ∧ 0 ≤ k ∧ k < (l.length : Int) := by
  unfold witE
  by_cases h : validE l = 0
  · rw [if_pos h]
    by_cases h2 : 0 ≤ k ∧ k < (l.length : Int)
    · rw [if_pos h2]; exact ⟨fun _ => ⟨h, h2⟩, fun _ => rfl⟩
    · rw [if_neg h2]; exact ⟨fun x => (by cases x), fun x => absurd x.2 h2⟩
  · rw [if_neg h]; exact ⟨fun x => absurd x h, fun x => absurd x.1 h⟩
end Go.Proofs.Ytiffgaelndajpaa
