/- A search: how it begins, one more arrival, none. -/
import Derived.Test.YtjgpfnnokdcgoaaNextZ
import Derived.Test.YtjgpfnnokdcgoaaNetOf
namespace Go.Proofs.Ytjgpfnnokdcgoaa
open Go.RowKit Go.Maps

theorem plA_pl (p : List Int) : Value.agg (plA p) = plV p := rfl
theorem memV_one (p : List Int) : memV plV [p] (plV p) = true := by simp [memV]
theorem memV_not (p : List Int) (v : Value) (h : v ≠ plV p) : memV plV [p] v = false := by
  unfold memV
  rw [decide_eq_false_iff_not]
  rintro ⟨y, hy, he⟩
  rw [List.mem_singleton.1 hy] at he
  exact h he.symm

/-- The closure of a search. -/
def srV (bo bn bi bs : Nat) : Value := .func (.func 94) #[] #[.pointer (some ⟨bo, 0, none⟩), .pointer (some ⟨bn, 0, none⟩), .pointer (some ⟨bi, 0, none⟩), .pointer (some ⟨bs, 0, none⟩)]

set_option maxRecDepth 100000 in
set_option maxHeartbeats 4000000 in
theorem search_c (Z : Nat) (A B : Option Addr) (l : List (Int × Int)) (p : List Int) (c d : Nat) (w : World) (ht : trapE Z l = 0) (hp4 : p.length ≤ 4) (hpz : p.length ≤ Z) (hin : ∀ x ∈ p, 0 ≤ x ∧ x < (Z : Int)) (hr : Rd w A (cellsP l)) (hs : Rd w B (ints p)) :
    Calls Try.prog 77 #[trapV Z A l.length c, .slice B p.length d] w fun e w' => ∃ bo bn bi bs bm h0 h1 h2 h3 h4 h5 g, e = .returned (srV bo bn bi bs) ∧ SZ w' w.heap.size bo bn bi bs bm Z p.length l p [] [(g, (p, []))] [p] h0 h1 h2 h3 h4 h5 ∧ Below w.heap.size w w' := by
  have hl36 := trap_len ht
  obtain ⟨n6, hn6, hn1, hz6⟩ := trap_nat ht
  have hZ6 : Z ≤ 6 := by omega
  clear hn6 hn1 hz6 n6
  have x0 := Bx.new w 24 #[.int .i64 Z, .slice A l.length c]
  have hb0 := bl_alloc (Below.refl w.heap.size w) (.cells #[.int .i64 Z, .slice A l.length c] 24)
  generalize hw0 : w.alloc (.cells #[.int .i64 Z, .slice A l.length c] 24) = w0 at *
  have HN := fun w1 h => Lib.hid (netOf_c Z A l c w1 ht (by omega) h)
  have HKEY := Lib.hid (place_key (p := p) fun x hx => by have := hin x hx; omega)
  have HPL : Hid (plV p = .agg #[.int .i64 (p.getD 0 0), .int .i64 (p.getD 1 0), .int .i64 (p.getD 2 0), .int .i64 (p.getD 3 0)]) := rfl
  have HPA : Hid (plA p = #[.int .i64 (p.getD 0 0), .int .i64 (p.getD 1 0), .int .i64 (p.getD 2 0), .int .i64 (p.getD 3 0)]) := rfl
  rw [HPL.out] at HKEY
  have HP := fun w1 h => Lib.hid (placeOf_c B p d w1 hp4 h)
  simp only [HPA.out] at HP
  generalize p.getD 0 0 = v0 at *
  generalize p.getD 1 0 = v1 at *
  generalize p.getD 2 0 = v2 at *
  generalize p.getD 3 0 = v3 at *
  have hmm := @run_makeMap Try.prog
  go_enter Try.func77, Try.ntmps77
  obtain ⟨c0, c1, _⟩ := x0.two
  go_wp2_with (fail)
  refine (HN _ (hr.later hb0)).out.mono ?_
  rintro e w1 ⟨h0, h1, h2, h3, h4, h5, rfl, htb, hb1⟩
  have hb01 := bl_call hb0 hb1
  obtain ⟨A0, m0, k0, rfl⟩ := htb.form (k := 0) (by simp) rfl
  obtain ⟨A1, m1, k1, rfl⟩ := htb.form (k := 1) (by simp) rfl
  obtain ⟨A2, m2, k2, rfl⟩ := htb.form (k := 2) (by simp) rfl
  obtain ⟨A3, m3, k3, rfl⟩ := htb.form (k := 3) (by simp) rfl
  obtain ⟨A4, m4, k4, rfl⟩ := htb.form (k := 4) (by simp) rfl
  obtain ⟨A5, m5, k5, rfl⟩ := htb.form (k := 5) (by simp) rfl
  go_wp2_with (fail)
  have hb1n := bl_alloc (bl_alloc hb01 (.cells #[.int .i64 Z, .slice A0 m0 k0, .slice A1 m1 k1, .slice A2 m2 k2, .slice A3 m3 k3, .slice A4 m4 k4, .slice A5 m5 k5] 78)) (.cells #[.int .i64 p.length] 3)
  refine (HP _ (hs.later hb1n)).out.mono ?_
  rintro e w2 ⟨rfl, hb2⟩
  have hb02 := bl_call hb1n hb2
  have xA := Bx.new w2 94 #[.int .i64 v0, .int .i64 v1, .int .i64 v2, .int .i64 v3, .int .i64 0, .pointer none, .int .i64 0, .int .i64 0]
  have hb3 := bl_alloc (Below.refl w2.heap.size w2) (.cells #[.int .i64 v0, .int .i64 v1, .int .i64 v2, .int .i64 v3, .int .i64 0, .pointer none, .int .i64 0, .int .i64 0] 94)
  obtain ⟨w3, hw3⟩ : ∃ w3, w3 = w2.alloc (.cells #[.int .i64 v0, .int .i64 v1, .int .i64 v2, .int .i64 v3, .int .i64 0, .pointer none, .int .i64 0, .int .i64 0] 94) := ⟨_, rfl⟩
  have hsz3 : w3.heap.size = w2.heap.size + 1 := by rw [hw3]; simp
  rw [← hw3] at xA hb3
  have hsm := seen_made Try.prog 92 4 w3
  obtain ⟨w4, hrun, hs4, hg4⟩ := seen_put (t := 115) (S' := memV plV [p]) hsm place_law Try.underlying115 Try.underlying4 (by unfold maxLen; omega) HKEY.out (by rw [← HPL.out]; exact memV_one p) (by rw [← HPL.out]; exact fun v h => memV_not p v h)
  rw [hsz3, hw3] at hrun
  clear hw3
  have hnm : ∀ {g : Nat} {T : TypeId} {cs : Array Value}, Bx w3 g T cs → Bx w4 g T cs := fun {g T cs} hx => (hg4.block g (hx.alloc (.map #[] 0)).lt (fun e => by have h1 := hx.lt; injection e with e; omega)).trans (hx.alloc (.map #[] 0))
  have hb34 : Below w2.heap.size w2 w4 := (bl_alloc hb3 (.map #[] 0)).grown hg4 (by rw [World.size_alloc]; omega) (fun k hk => by cases hk; omega)
  have hb04 := bl_call hb02 hb34
  have hK1 : ∀ {g : Nat} {T : TypeId} {cs : Array Value}, Bx w4 g T cs → Bx (((w4.alloc (.cells #[.map (some (w2.heap.size + 1))] 115)).alloc (.cells #[.pointer (some ⟨w2.heap.size, 0, none⟩)] 89)).alloc (.cells #[.slice (some ⟨w4.heap.size + 1, 0, none⟩) 1 1] 116)) g T cs := fun hx => ((hx.alloc _).alloc _).alloc _
  have hyn : Bx w4 w1.heap.size 78 #[.int .i64 Z, .slice A0 m0 k0, .slice A1 m1 k1, .slice A2 m2 k2, .slice A3 m3 k3, .slice A4 m4 k4, .slice A5 m5 k5] := (((Bx.new w1 _ _).alloc _).call hb2).call hb34
  have hyi : Bx w4 (w1.heap.size + 1) 3 #[.int .i64 p.length] := ((Bx.newAt (by simp)).call hb2).call hb34
  have hya := hnm xA
  have hyt := ((htb.lower hb0.size).call ((bl_alloc (bl_alloc (Below.refl w1.heap.size w1) (.cells #[.int .i64 Z, .slice A0 m0 k0, .slice A1 m1 k1, .slice A2 m2 k2, .slice A3 m3 k3, .slice A4 m4 k4, .slice A5 m5 k5] 78)) (.cells #[.int .i64 p.length] 3)).trans (hb2.mono (by simp; omega)))).call hb34
  have hs12 := hb2.size
  have hs24 := hb34.size
  have hs01 := hb01.size
  simp only [World.size_alloc] at hs12
  go_wp2_with (fail)
  go_ret
  refine ⟨w4.heap.size + 1 + 1, w1.heap.size, w1.heap.size + 1, w4.heap.size, w2.heap.size + 1, _, _, _, _, _, _, w2.heap.size, rfl, ⟨⟨hK1 hyn, hyt.keep fun _ _ hx => hK1 hx, hK1 hyi, ((Bx.new w4 _ _).alloc _).alloc _, by omega, by omega, by simp; omega⟩, ⟨⟨_, Bx.newAt (by simp), ?_⟩, ?_, ?_, by simp, by simp⟩, LeftZ.begin l Z p, hZ6, hp4, hpz, rfl, hin⟩, bl_alloc (bl_alloc (bl_alloc hb04 _) _) _⟩
  · have h := OffR.made (w4.alloc (.cells #[.map (some (w2.heap.size + 1))] 115)) w.heap.size 89 (.pointer (some ⟨w2.heap.size, 0, none⟩)) (by simp; omega)
    rw [World.size_alloc] at h
    exact h.kept fun _ _ _ hx => hx.alloc _
  · intro x hx
    rw [List.mem_singleton.1 hx]
    refine ⟨by omega, ?_⟩
    rw [HPA.out]
    exact hK1 hya
  · rw [← hsz3]
    exact (((hs4.mono (by simp)).alloc _).alloc _).alloc _
end Go.Proofs.Ytjgpfnnokdcgoaa
