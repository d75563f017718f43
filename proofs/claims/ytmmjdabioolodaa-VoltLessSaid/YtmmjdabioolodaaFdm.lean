/- A set of fields as a map whose keys are arrays of three numbers. -/
import Derived.Test.YtmmjdabioolodaaMak
import Derived.Test.YtmmjdabioolodaaDef
import Derived.Maps.OwnSet
import Derived.Maps.OwnOps
import Derived.DeepKeys4
namespace Go.Proofs.Ytmmjdabioolodaa
open Go.RowKit Go.Maps Go.WideShapes

/-- A field in an array of three numbers. -/
def padV (F : List Int) : Value := .agg #[.int .i64 (F.getD 0 0), .int .i64 (F.getD 1 0), .int .i64 (F.getD 2 0)]
theorem arr_law : Keyed Try.prog 79 := Keyed.of_law (deep_law_laid laid_out (m := 3) (by omega) (of_decide_eq_true (by kernel_rfl)) (by kernel_rfl) (by kernel_rfl))
theorem fuel2 : ∃ d, Try.prog.types.size + 1 = d + 3 := ⟨Try.prog.types.size - 2, by have h : 2 ≤ Try.prog.types.size := of_decide_eq_true (by kernel_rfl); omega⟩
theorem keyLits_int (d : Nat) {a : Int} (h : (Lit.int .i64 a).wf = true) : Try.prog.keyLits (d + 1) 3 [.int .i64 a] = some [.int .i64 a] := by
  unfold Program.keyLits
  rw [Try.underlying3]
  simp [h]
theorem cells_int : Try.prog.cellsOf 3 = 1 := by kernel_rfl
theorem cells_arr : Try.prog.cellsOf 79 = 3 := by kernel_rfl
theorem keyLits_arr (d : Nat) {a b c : Int} (ha : (Lit.int .i64 a).wf = true) (hb : (Lit.int .i64 b).wf = true) (hc : (Lit.int .i64 c).wf = true) :
    Try.prog.keyLits (d + 2) 79 [.int .i64 a, .int .i64 b, .int .i64 c] = some [.int .i64 a, .int .i64 b, .int .i64 c] := by
  unfold Program.keyLits
  rw [Try.underlying79]
  simp [cells_arr, cells_int, List.range_succ, keyLits_int d ha, keyLits_int d hb, keyLits_int d hc]
/-- Numbers of a field. -/
def FldOk (F : List Int) : Prop := F.length ≤ 3 ∧ ∀ k, -1000 ≤ F.getD k 0 ∧ F.getD k 0 ≤ 1000
theorem pad_key {F : List Int} (hF : FldOk F) : (keyOf Try.prog 79 (padV F)).isSome = true := by
  obtain ⟨d, hd⟩ := fuel2
  have hw : ∀ k, (Lit.int .i64 (F.getD k 0)).wf = true := fun k => WalkArith.wf_i64 (by have := hF.2 k; exact ⟨by omega, by omega⟩)
  have e1 : Try.prog.keyType 79 = true := by kernel_rfl
  have e2 : Value.formed Try.prog 79 (padV F) = true := by simp [padV, Value.formed, Try.underlying79, cells_arr]
  unfold keyOf
  rw [Try.underlying79]
  simp only [e1, e2, hd, Bool.and_self, if_true]
  show (Option.map _ (Try.prog.keyLits (d + 3) 79 [.int .i64 (F.getD 0 0), .int .i64 (F.getD 1 0), .int .i64 (F.getD 2 0)])).isSome = true
  rw [keyLits_arr (d + 1) (hw 0) (hw 1) (hw 2)]
  rfl
def keyP (P : Program) (F : List Int) : Lit := (keyOf P 79 (padV F)).getD (.bool true)
theorem key_at {F : List Int} (hF : FldOk F) : keyOf Try.prog 79 (padV F) = some (keyP Try.prog F) := by
  obtain ⟨k, hk⟩ := Option.isSome_iff_exists.1 (pad_key hF)
  unfold keyP
  rw [hk]; rfl
theorem key_ok {F : List Int} (hF : FldOk F) : WideAt.IsKeyLit (keyP Try.prog F) := arr_law.key (key_at hF)
theorem key_inj {F G : List Int} (hF : FldOk F) (hG : FldOk G) (hl : F.length = G.length) (h : keyP Try.prog F = keyP Try.prog G) : F = G := by
  have h1 := key_at hF
  rw [h] at h1
  have h2 := arr_law.inj h1 (key_at hG)
  simp only [padV, Value.agg.injEq, Array.mk.injEq, List.cons.injEq, Value.int.injEq, and_true, true_and] at h2
  obtain ⟨e0, e1, e2⟩ := h2
  have hl3 := hF.1
  refine list_ext hl fun k hk => ?_
  have : k = 0 ∨ k = 1 ∨ k = 2 := by omega
  rcases this with rfl | rfl | rfl <;> assumption
def yesD : DataW Unit := .lit (.bool true)
/-- The map holds just the keys of ks. -/
def Holds (n : Nat) (D : DataW Unit) (ks : List (List Int)) : Prop := (∃ es, D = .map es ∧ es.Perm (ks.map fun F => (keyP Try.prog F, yesD))) ∧ ks.Nodup ∧ ∀ F ∈ ks, FldOk F ∧ F.length = n
theorem holds_nil (n : Nat) : Holds n (.map []) [] := ⟨⟨[], rfl, List.Perm.refl _⟩, List.nodup_nil, by simp⟩
theorem holds_size {n : Nat} {D : DataW Unit} {ks : List (List Int)} (h : Holds n D ks) : Maps.size D = ks.length := by
  obtain ⟨⟨es, rfl, hp⟩, _⟩ := h
  show es.length = _
  rw [hp.length_eq, List.length_map]
theorem holds_new {n : Nat} {D : DataW Unit} {ks : List (List Int)} {F : List Int} (h : Holds n D ks) (hF : FldOk F) (hl : F.length = n) (hn : F ∉ ks) : Holds n (D.put (keyP Try.prog F) yesD) (ks ++ [F]) := by
  obtain ⟨⟨es, rfl, hp⟩, hnd, hok⟩ := h
  refine ⟨⟨_, rfl, ?_⟩, ?_, ?_⟩
  · have hf : es.filter (fun p => !p.1.sameKey (keyP Try.prog F)) = es := by
      rw [List.filter_eq_self]
      intro p hp'
      obtain ⟨G, hG, rfl⟩ := List.mem_map.1 (hp.mem_iff.1 hp')
      rcases hb : (keyP Try.prog G).sameKey (keyP Try.prog F) with _ | _
      · rfl
      · exact absurd (key_inj (hok G hG).1 hF (by rw [(hok G hG).2, hl]) (WideAt.sameKey_eq hb)) (fun e => hn (e ▸ hG))
    rw [hf, List.map_append]
    refine (WideShapes.insert_perm _ _).trans ?_
    refine (List.Perm.cons _ hp).trans ?_
    exact (List.perm_append_singleton _ _).symm
  · rw [List.nodup_append]
    exact ⟨hnd, by simp, fun a ha b hb => by simp at hb; subst hb; rintro rfl; exact hn ha⟩
  · intro G hG
    rcases List.mem_append.1 hG with hG | hG
    · exact hok G hG
    · rw [List.mem_singleton.1 hG]; exact ⟨hF, hl⟩
set_option maxRecDepth 100000 in
theorem holds_old {n : Nat} {D : DataW Unit} {ks : List (List Int)} {F : List Int} (h : Holds n D ks) (hm : F ∈ ks) : Holds n (D.put (keyP Try.prog F) yesD) ks := by
  obtain ⟨⟨es, rfl, hp⟩, hnd, hok⟩ := h
  refine ⟨⟨_, rfl, ?_⟩, hnd, hok⟩
  refine (WideShapes.insert_perm _ _).trans ?_
  refine (List.Perm.cons _ (hp.filter _)).trans ?_
  rw [List.filter_map]
  have e : ks.filter ((fun p : Lit × DataW Unit => !p.1.sameKey (keyP Try.prog F)) ∘ fun G => (keyP Try.prog G, yesD)) = ks.erase F := by
    rw [hnd.erase_eq_filter]
    refine List.filter_congr fun G hG => ?_
    show (!(keyP Try.prog G).sameKey (keyP Try.prog F)) = (G != F)
    by_cases hs : G = F
    · subst hs; rw [WideAt.sameKey_self (key_ok (hok G hG).1)]; simp
    · rcases hb : (keyP Try.prog G).sameKey (keyP Try.prog F) with _ | _
      · simp [hs]
      · exact absurd (key_inj (hok G hG).1 (hok F hm).1 (by rw [(hok G hG).2, (hok F hm).2]) (WideAt.sameKey_eq hb)) hs
  rw [e]
  have h2 := (List.perm_cons_erase hm).symm.map fun G => (keyP Try.prog G, yesD)
  rw [List.map_cons] at h2
  exact h2
abbrev OwnM (w : World) (b n : Nat) (D : DataW Unit) : Prop := w.ownsMap Try.prog 79 (plainElem Try.prog 4) b n D
theorem OwnM.call {w w' : World} {b n : Nat} {D : DataW Unit} (h : OwnM w b n D) (hb : Below w.heap.size w w') : OwnM w' b n D := by
  have hlt := World.ownsMap.lt h
  obtain ⟨es, clock, hbl, F, hs, hD⟩ := h
  exact ⟨es, clock, (hb.block b hlt).trans hbl, F, hs, hD⟩
theorem OwnM.mod {S : Nat → Prop} {w w' : World} {b n : Nat} {D : DataW Unit} (h : OwnM w b n D) (hm : Mod S w w') (hn : ¬ S b) : OwnM w' b n D := by
  have hlt := World.ownsMap.lt h
  obtain ⟨es, clock, hbl, F, hs, hD⟩ := h
  exact ⟨es, clock, (hm.block b hlt hn).trans hbl, F, hs, hD⟩
/-- One more field. -/
theorem put_field {w : World} {b n : Nat} {D : DataW Unit} {ks : List (List Int)} {m : Nat} {F : List Int} (h : OwnM w b n D) (hh : Holds m D ks) (hn : n < 100000) (hF : FldOk F) (hl : F.length = m) :
    ∃ w' D', (Instr.mapUpdate 77 (.map (some b)) (padV F) (.bool true)).run Try.prog w = .ok () w' ∧ OwnM w' b (n + 1) D' ∧ Holds m D' (if F ∈ ks then ks else ks ++ [F]) ∧ w.grownBy w' (some b) := by
  have he : plainElem Try.prog 4 (.bool true) = some (yesD, ([] : List MemPlace)) := by
    unfold plainElem
    rw [Try.underlying4]
    rfl
  obtain ⟨w', hrun, r1, r2⟩ := World.ownsMap.update h arr_law Try.underlying77 (by unfold maxLen; omega) (key_at hF) he
  refine ⟨w', _, hrun, r1, ?_, r2⟩
  split
  · rename_i hm; exact holds_old hh hm
  · rename_i hm; exact holds_new hh hF hl hm
end Go.Proofs.Ytmmjdabioolodaa
