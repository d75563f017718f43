/- Small facts for package zone: types, ranges of numbers, sets of keys. -/
import Derived.Test.YtjgpfnnokdcgoaaProg
import Derived.Test.YtjgpfnnokdcgoaaSeen
import Derived.Test.YtjgpfnnokdcgoaaOwn
import Derived.WalkLawsBesides
import Derived.WalkSmall
import Derived.BigQuiet
import Derived.Deep.QuietTactic
import Derived.Lib.Hide
import Derived.Deep.LoopGhost
import Derived.Deep.RegionWith
import Derived.Deep.RegionLaw
import Derived.Deep.AppendSrc
import Derived.StillTailTactics
namespace Go.Proofs.Ytjgpfnnokdcgoaa
open Go.RowKit Go.Maps

theorem laid_out : laidOutB Try.prog = true := by kernel_rfl
theorem int_info : (Try.prog.info? 3).map (fun i => (i.zero, i.size, i.bytes)) = some (some (.int .i64 0), 1, 8) := by kernel_rfl
theorem slice_info : (Try.prog.info? 25).map (fun i => (i.zero, i.size, i.bytes)) = some (some (.slice none 0 0), 1, 24) := by kernel_rfl
theorem link_info : (Try.prog.info? 69).map (fun i => (i.zero, i.size, i.bytes)) = some (some (.agg #[.int .i64 0, .int .i64 0]), 2, 16) := by kernel_rfl
theorem move_info : (Try.prog.info? 54).map (fun i => (i.zero, i.size, i.bytes)) = some (some (.agg #[.int .i64 0, .int .i64 0]), 2, 16) := by kernel_rfl

def encI (a : Int) : Value := .int .i64 a
def encP (a : Int × Int) : Value := .agg #[.int .i64 a.1, .int .i64 a.2]
theorem encI_inj {a b : Int} (h : encI a = encI b) : a = b := by injection h
theorem encP_inj {a b : Int × Int} (h : encP a = encP b) : a = b := by
  obtain ⟨a1, a2⟩ := a
  obtain ⟨b1, b2⟩ := b
  simpa [encP] using h
open Classical in
/-- The keys of a list. -/
noncomputable def memV {α : Type} (enc : α → Value) (l : List α) (v : Value) : Bool := decide (∃ x ∈ l, enc x = v)
theorem memV_iff {α : Type} {enc : α → Value} (hi : ∀ {a b}, enc a = enc b → a = b) (l : List α) (x : α) : memV enc l (enc x) = true ↔ x ∈ l := by
  unfold memV
  simp only [decide_eq_true_eq]
  constructor
  · rintro ⟨y, hy, he⟩; rwa [← hi he]
  · intro h; exact ⟨x, h, rfl⟩
theorem memV_yes {α : Type} {enc : α → Value} (hi : ∀ {a b}, enc a = enc b → a = b) {l : List α} {x : α} (h : x ∈ l) : memV enc l (enc x) = true := (memV_iff hi l x).2 h
theorem memV_no {α : Type} {enc : α → Value} (hi : ∀ {a b}, enc a = enc b → a = b) {l : List α} {x : α} (h : x ∉ l) : memV enc l (enc x) = false := by
  cases hb : memV enc l (enc x) with
  | false => rfl
  | true => exact absurd ((memV_iff hi l x).1 hb) h
theorem memV_nil {α : Type} (enc : α → Value) : memV enc [] = fun _ => false := by funext v; simp [memV]
theorem memV_new {α : Type} (enc : α → Value) (l : List α) (x : α) : memV enc (l ++ [x]) (enc x) = true := by simp [memV]
theorem memV_old {α : Type} {enc : α → Value} (l : List α) (x : α) {v : Value} (h : v ≠ enc x) : memV enc (l ++ [x]) v = memV enc l v := by
  unfold memV
  rw [decide_eq_decide]
  constructor
  · rintro ⟨y, hy, he⟩
    rcases List.mem_append.1 hy with hy | hy
    · exact ⟨y, hy, he⟩
    · rw [List.mem_singleton.1 hy] at he; exact absurd he.symm h
  · rintro ⟨y, hy, he⟩; exact ⟨y, List.mem_append.2 (.inl hy), he⟩

theorem int_law : Keyed Try.prog 3 := int_keyed Try.underlying3
theorem link_law : Keyed Try.prog 69 := Keyed.of_law (deep_law_laid laid_out (m := 3) (by omega) (of_decide_eq_true (by kernel_rfl)) (by kernel_rfl) (by kernel_rfl))
theorem zero_bool (w : World) : (zeroValue 4).run Try.prog w = .ok (.bool false) w := by kernel_rfl
theorem wf_small {a : Int} (h0 : 0 ≤ a) (h1 : a < 1000) : (Lit.int .i64 a).wf = true := WalkArith.wf_i64 (by omega)
theorem int_key {a : Int} (h0 : 0 ≤ a) (h1 : a < 1000) : (keyOf Try.prog 3 (.int .i64 a)).isSome = true := by
  rw [keyOf_int_mk Try.underlying3 (wf_small h0 h1)]; rfl
theorem fuel2 : ∃ d, Try.prog.types.size + 1 = d + 3 := ⟨Try.prog.types.size - 2, by have h : 2 ≤ Try.prog.types.size := of_decide_eq_true (by kernel_rfl); omega⟩
theorem keyLits_int (d : Nat) {a : Int} (h : (Lit.int .i64 a).wf = true) : Try.prog.keyLits (d + 1) 3 [.int .i64 a] = some [.int .i64 a] := by
  unfold Program.keyLits
  rw [Try.underlying3]
  simp [h]
theorem cells_int : Try.prog.cellsOf 3 = 1 := by kernel_rfl
theorem cells_link : Try.prog.cellsOf 69 = 2 := by kernel_rfl
theorem keyLits_link (d : Nat) {a b : Int} (ha : (Lit.int .i64 a).wf = true) (hb : (Lit.int .i64 b).wf = true) : Try.prog.keyLits (d + 2) 69 [.int .i64 a, .int .i64 b] = some [.int .i64 a, .int .i64 b] := by
  unfold Program.keyLits
  rw [Try.underlying69]
  simp [cells_link, cells_int, keyLits_int d ha, keyLits_int d hb]
theorem link_key {a b : Int} (h0 : 0 ≤ a) (h1 : a < 1000) (h2 : 0 ≤ b) (h3 : b < 1000) : (keyOf Try.prog 69 (.agg #[.int .i64 a, .int .i64 b])).isSome = true := by
  obtain ⟨d, hd⟩ := fuel2
  have e1 : Try.prog.keyType 69 = true := by kernel_rfl
  have e2 : Value.formed Try.prog 69 (.agg #[.int .i64 a, .int .i64 b]) = true := by simp [Value.formed, Try.underlying69, cells_link]
  unfold keyOf
  rw [Try.underlying69]
  simp only [e1, e2, hd, Value.cells, Bool.and_self, if_true]
  rw [keyLits_link (d + 1) (wf_small h0 h1) (wf_small h2 h3)]
  rfl
end Go.Proofs.Ytjgpfnnokdcgoaa
