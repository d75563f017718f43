/- When the jobs are done, the greatest lateness, whether they can be kept: package clock's. -/
import Derived.Test.YtiffgaelndajpaaUrg
import Derived.Test.YtiffgaelndajpaaClkT
namespace Go.Proofs.Ytiffgaelndajpaa
open Go.RowKit

def Row (w : World) (g : Nat) (xs : List Int) : Prop := Bx w g 3 (ints xs).toArray
section
variable {w w' : World} {g : Nat} {xs : List Int}
theorem Row.get (h : Row w g xs) {k : Nat} (hk : k < xs.length) : w.cell? ⟨g, k, none⟩ = some (.int .i64 (xs.getD k 0)) := by
  rw [Bx.cell h k]; simp [ints, hk]
theorem Row.set (h : Row w g xs) (k : Nat) (v : Int) : Row (w.setCell ⟨g, k, none⟩ (.int .i64 v)) g (xs.set k v) := by
  have := Bx.set h k (.int .i64 v)
  have e : (ints xs).toArray.setIfInBounds k (.int .i64 v) = (ints (xs.set k v)).toArray := by simp [ints]
  rw [e] at this
  exact this
theorem Row.rd (h : Row w g xs) : Rd w (some ⟨g, 0, none⟩) (ints xs) := by
  refine .inr ⟨g, 0, rfl, Bx.lt h, fun k v hv => ?_⟩
  rw [Nat.zero_add, Bx.cell h k]; simpa using hv
theorem Row.call (h : Row w g xs) (hb : Below w.heap.size w w') : Row w' g xs := Bx.call h hb
theorem Row.lt (h : Row w g xs) : g < w.heap.size := Bx.lt h
theorem Row.free (h : Row w g xs) (k : Nat) : w.frozen? ⟨g, k, none⟩ = false := Bx.free h k
theorem Row.mod {S : Nat → Prop} (h : Row w g xs) (hm : Mod S w w') (hn : ¬ S g) : Row w' g xs := Bx.mod h hm hn
theorem Row.alloc (h : Row w g xs) (o : Obj) : Row (w.alloc o) g xs := Bx.alloc h o
end
theorem make_ints (n : Nat) (hn : n ≤ 1024) (w : World) : ∃ cs, (Instr.makeSlice 23 (.int .i64 n) (.int .i64 n)).run Try.prog w = .ok (.slice (some ⟨w.heap.size, 0, none⟩) n n) (w.alloc (.cells cs 3)) ∧ cs = (ints (List.replicate n 0)).toArray := by
  obtain ⟨i0, hi, hz0, hz1, hz2⟩ := info_parts int_info
  have h := run_make (P := Try.prog) w 23 3 i0 _ Try.underlying23 hi hz0 .i64 .i64 (n : Int) (n : Int) (by omega) (by omega) (by rw [hz2]; omega) (by omega)
  simp only [Int.toNat_natCast] at h
  refine ⟨_, h, ?_⟩
  rw [hz1, Nat.mul_one]
  apply Array.ext
  · simp [size_madeCells, ints]
  · intro i h1 h2
    simp [madeCells, ints, Value.cells]
    rw [Nat.mod_one]; rfl

theorem endsTo_succ (l : List T3) (k : Nat) : endsTo l (k + 1) = endStep (endsTo l k) (pickAt l k) k := rfl
set_option maxRecDepth 100000 in
set_option maxHeartbeats 4000000 in
theorem endsOf_c (A : Option Addr) (l : List T3) (c : Nat) (w : World) (hl : Ok l) (hr : Rd w A (cellsT l)) :
    Calls Try.prog 60 #[.slice A l.length c] w fun e w' => e = .returned (.slice (some ⟨w.heap.size, 0, none⟩) l.length l.length) ∧ Row w' w.heap.size (endsL l) ∧ Below w.heap.size w w' := by
  have h8 := hl.len
  have hN := lenU_le hl
  obtain ⟨cs, hmk, hcs⟩ := make_ints l.length (by omega) w
  have hR0 : Row (w.alloc (.cells cs 3)) w.heap.size (endsTo l 0) := by rw [hcs]; exact Bx.new w _ _
  have hbl : Below w.heap.size w (w.alloc (.cells cs 3)) := bl_alloc (Below.refl _ _) _
  have HT := fun w1 h => Lib.hid (tableBy_c A l c w1 hl h)
  have HE : Hid (endsL l = endsTo l (lenU l)) := rfl
  have HLT : Hid ((urgL l).length = lenU l) := unitsTo_len _ _
  have HG : Hid (∀ t, t < lenU l → (urgL l).getD t 0 = pickAt l t) := fun t h => unitsTo_get _ _ _ h
  have HPR := Lib.hid (pickAt_range l)
  have HES := Lib.hid (endsTo_succ l)
  have HEL := Lib.hid (endsTo_len l)
  clear hcs
  go_enter Try.func60, Try.ntmps60
  go_wp2_with (fail)
  have hs0 : w.heap.size < (w.alloc (.cells cs 3)).heap.size := by rw [World.size_alloc]; omega
  generalize w.alloc (.cells cs 3) = w0 at *
  refine (HT _ (hr.later hbl)).out.mono ?_
  rintro e w2 ⟨c2, rfl, hr2, hb2⟩
  have hR2 := hR0.call hb2
  have hb02 := bl_call hbl hb2
  have hrb := hr2.blk
  rw [HLT.out]
  generalize lenU l = N at *
  clear hR0 hmk HT
  go_wp2_with (fail)
  go_loopg [14] N (fun gk iv wr => ∃ k : Nat, Hid (k + gk = N) ∧ iv = .int .i64 (k : Int) ∧ Row wr w.heap.size (endsTo l k) ∧ Rd wr (some ⟨w0.heap.size, 0, none⟩) (ints (urgL l)) ∧ Below w.heap.size w wr)
  case atStart => exact ⟨0, by simp [Hid], rfl, hR2, hr2, hb02⟩
  case round =>
    obtain ⟨k, HK, rfl, hR, hrt, hb⟩ := hrel
    clear hR2 hb02 hr2
    rcases gk with _ | gi
    · obtain rfl : k = N := HK.out
      go_wp2_with (fail)
      go_ret
      exact ⟨rfl, by rw [HE.out]; exact hR, hb⟩
    · have hkN : k < N := by have := HK.out; omega
      have hkN' : (k : Int) < (N : Int) := by omega
      obtain ⟨b, o, hbe, hbl2, hcc⟩ := hrt.at_ (k := k) (by rw [ints_length, HLT.out]; exact hkN)
      have hck := hcc k _ (ints_get (by rw [HLT.out]; exact hkN))
      rw [HG.out k hkN] at hck
      have hf := HPR.out k
      have HS := Lib.hid (HES.out k)
      have HLK := Lib.hid (HEL.out k)
      injection hbe with hbe
      injection hbe with hb1 hb2
      subst hb1 hb2
      rw [Nat.zero_add] at hck
      clear hcc
      generalize pickAt l k = f at *
      obtain ⟨hf1, hf2⟩ := hf
      by_cases hfm : f = -1
      · subst hfm
        have HS2 : Hid (endsTo l (k + 1) = endsTo l k) := by show _ = _; rw [HS.out]; rfl
        go_wp2_with (fail)
        go_roundg gi
        case rel => exact ⟨k + 1, by have := HK.out; show _ = _; omega, by go_num, by rw [HS2.out]; exact hR, hrt, hb⟩
        case measure => omega
      · obtain ⟨i, rfl⟩ := Int.eq_ofNat_of_zero_le (show 0 ≤ f by omega)
        have hil : i < l.length := by omega
        have hne : ((i : Int) != -1) = true := by rw [bne_iff_ne]; omega
        have HS2 : Hid (endsTo l (k + 1) = (endsTo l k).set i ((k : Int) + 1)) := by show _ = _; rw [HS.out, endStep, if_neg (by omega), Int.toNat_natCast]
        have y0 := hR.get (k := i) (by rw [HLK.out]; exact hil)
        have y1 := hR.free i
        have hset := hR.set i ((k : Int) + 1)
        rw [← HS2.out] at hset
        have hkb : (k : Int) ≤ 540 := by omega
        have hbs := bl_set hb (g := w.heap.size) (i := i) (Nat.le_refl _) (.int .i64 ((k : Int) + 1))
        have HRT : Hid (Rd (wr.setCell ⟨w.heap.size, i, none⟩ (.int .i64 ((k : Int) + 1))) (some ⟨w0.heap.size, 0, none⟩) (ints (urgL l))) :=
          hrt.mod ((Mod.refl (fun q => q = w.heap.size) wr).setCell (.inr rfl) _) (fun a e1 _ _ h => by injection e1 with e1; rw [← e1] at h; have h' : w0.heap.size = w.heap.size := h; omega)
        clear hf2 hfm
        go_wp2_with (fail)
        go_roundg gi
        case rel => exact ⟨k + 1, by have := HK.out; show _ = _; omega, by go_num, hset, HRT.out, hbs⟩
        case measure => omega

theorem lateTo_succ (l : List T3) (k : Nat) : lateTo l (k + 1) = max (lateTo l k) ((endsL l).getD k 0 - (l.getD k t0).2.1) := rfl
theorem lateTo_range {l : List T3} (hl : Ok l) {k : Nat} (hk : k ≤ l.length) : -60 ≤ lateTo l k ∧ lateTo l k ≤ 540 := by
  refine ⟨(lateTo_le.1 (Int.le_refl _)).1, lateTo_le.2 ⟨by omega, fun j hj => ?_⟩⟩
  have h1 := (endsTo_range l (k := j) (by omega) (lenU l)).2
  have h2 := lenU_le hl
  have h3 := (hl.jobs.get (k := j) (by omega)).fb
  have h4 := (hl.jobs.get (k := j) (by omega)).f0
  unfold endsL; omega
set_option maxRecDepth 100000 in
set_option maxHeartbeats 4000000 in
theorem lateOf_c (A : Option Addr) (l : List T3) (c : Nat) (w : World) (hl : Ok l) (hr : Rd w A (cellsT l)) :
    Calls Try.prog 61 #[.slice A l.length c] w fun e w' => e = .returned (.int .i64 (lateL l)) ∧ Below w.heap.size w w' := by
  by_cases h0 : l.length = 0
  · have HL : Hid (lateL l = 0) := by show _ = _; rw [lateL, if_pos h0]
    go_enter Try.func61, Try.ntmps61
    go_wp2_with (fail)
    go_ret
    exact ⟨ret_i HL.out, Below.refl _ _⟩
  · have HL : Hid (lateL l = lateTo l l.length) := by show _ = _; rw [lateL, if_neg h0]
    have hne : ((l.length : Int) == 0) = false := by rw [beq_eq_false_iff_ne]; omega
    have h8 := hl.len
    have hN := lenU_le hl
    have HE := Lib.hid (endsOf_c A l c w hl hr)
    have HS := Lib.hid (lateTo_succ l)
    have HR := Lib.hid (fun k (h : k ≤ l.length) => @lateTo_range l hl k h)
    have HEL : Hid ((endsL l).length = l.length) := endsL_len l
    have HER := Lib.hid (fun k (h : k < l.length) => endsTo_range l h (lenU l))
    have HEE : Hid (endsL l = endsTo l (lenU l)) := rfl
    rw [← HEE.out] at HER
    clear h0
    go_enter Try.func61, Try.ntmps61
    go_wp2_with (fail)
    refine HE.out.mono ?_
    rintro e w2 ⟨rfl, hR2, hb2⟩
    clear HE HEE
    go_wp2_with (fail)
    go_loopg [3, 12] l.length (fun gk mv iv wr => ∃ k : Nat, Hid (k + gk = l.length) ∧ iv = .int .i64 (k : Int) ∧ mv = .int .i64 (lateTo l k) ∧ wr = w2)
    case atStart => exact ⟨0, by simp [Hid], rfl, rfl, rfl⟩
    case round =>
      obtain ⟨k, HK, rfl, rfl, rfl⟩ := hrel
      rcases gk with _ | gi
      · obtain rfl : k = l.length := HK.out
        go_wp2_with (fail)
        go_ret
        exact ⟨ret_i HL.out, hb2⟩
      · have hkl : k < l.length := by have := HK.out; omega
        have hkl' : (k : Int) < (l.length : Int) := by omega
        have y0 := hR2.get (k := k) (by rw [HEL.out]; exact hkl)
        obtain ⟨b, o, rfl, hbl, c0, c1, c2⟩ := (hr.later hb2).tri hkl
        have hj := hl.jobs.get hkl
        have j0 := hj.f0
        have j1 := hj.fb
        have j2 := hj.b1
        obtain ⟨r0, r1⟩ := HER.out k hkl
        have HS2 := Lib.hid (HS.out k)
        generalize l.getD k t0 = g at *
        generalize (endsL l).getD k 0 = x at *
        obtain ⟨g0, g1, g2⟩ := g
        simp only [] at c0 c1 c2 HS2 j0 j1 j2
        clear hj
        have r2 : x ≤ 540 := by omega
        go_wp2_with (fail)
        all_goals
          go_roundg gi
          case rel => exact ⟨k + 1, by have := HK.out; show _ = _; omega, by go_num, by rw [HS2.out]; congr 1; omega, rfl⟩
          case measure => omega

theorem canKeep_c (A : Option Addr) (l : List T3) (c : Nat) (w : World) (hl : Ok l) (hr : Rd w A (cellsT l)) :
    Calls Try.prog 58 #[.slice A l.length c] w fun e w' => e = .returned (.bool (canB l)) ∧ Below w.heap.size w w' := by
  have HL := Lib.hid (lateOf_c A l c w hl hr)
  have HC : Hid (canB l = decide (lateL l ≤ 0)) := rfl
  generalize lateL l = M at *
  go_enter Try.func58, Try.ntmps58
  go_wp2_with (fail)
  refine HL.out.mono ?_
  rintro e w2 ⟨rfl, hb2⟩
  go_wp2_with (fail)
  go_ret
  exact ⟨ret_b HC.out, hb2⟩

/- With the errors. -/
def lateG (l : List T3) : Int := if validE l = 0 then lateL l else 0
def urgG (l : List T3) : List Int := if validE l = 0 then urgL l else []
def endsG (l : List T3) : List Int := if validE l = 0 then endsL l else []
def canG (l : List T3) : Bool := if validE l = 0 then canB l else false
/-- A list of numbers that can be read, and an error. -/
def OutR (xs : List Int) (x : Int) (w : World) (e : Ending) (w' : World) : Prop :=
  ∃ A' c', e = .returned (.tuple #[.slice A' xs.length c', .int .i64 x]) ∧ Rd w' A' (ints xs) ∧ Below w.heap.size w w'
/-- .. in new memory. -/
def OutRk (xs : List Int) (x : Int) (w : World) (e : Ending) (w' : World) : Prop :=
  ∃ A' c', e = .returned (.tuple #[.slice A' xs.length c', .int .i64 x]) ∧ Rd w' A' (ints xs) ∧ (∀ a, A' = some a → w.heap.size ≤ a.block) ∧ Below w.heap.size w w'
theorem OutRk.out {xs : List Int} {x : Int} {w : World} {e : Ending} {w' : World} (h : OutRk xs x w e w') : OutR xs x w e w' := by
  obtain ⟨A', c', h1, h2, _, h3⟩ := h
  exact ⟨A', c', h1, h2, h3⟩
theorem Late_c (A : Option Addr) (l : List T3) (c : Nat) (w : World) (hlen : l.length ≤ 1000) (hr : Rd w A (cellsT l)) :
    Calls Try.prog 30 #[.slice A l.length c] w fun e w' => e = .returned (.tuple #[.int .i64 (lateG l), .int .i64 (validE l)]) ∧ Below w.heap.size w w' := by
  have HV := Lib.hid (validate_c A l c w hlen hr)
  by_cases hv : validE l = 0
  · have HB : lateG l = lateL l := by rw [lateG, if_pos hv]
    have HD := fun w h => Lib.hid (lateOf_c A l c w (validE_ok.1 hv) h)
    rw [hv] at HV
    rw [HB, hv]
    clear HB hv
    generalize lateL l = D at *
    go_enter Try.func30, Try.ntmps30
    go_wp2_with (go_at_call 18; refine HV.out.mono ?_; rintro e w1 ⟨rfl, hb1⟩)
    refine (HD _ (hr.later hb1)).out.mono ?_
    rintro e w2 ⟨rfl, hb2⟩
    go_wp2_with (fail)
    go_ret2
    exact ⟨rfl, bl_call hb1 hb2⟩
  · have HB : lateG l = 0 := by rw [lateG, if_neg hv]
    have hv' : (validE l != 0) = true := by simpa using hv
    rw [HB]
    clear HB
    generalize validE l = ev at *
    go_enter Try.func30, Try.ntmps30
    go_wp2_with (go_at_call 18; refine HV.out.mono ?_; rintro e w1 ⟨rfl, hb1⟩)
    go_ret2
    exact ⟨rfl, hb1⟩
theorem CanKeep_c (A : Option Addr) (l : List T3) (c : Nat) (w : World) (hlen : l.length ≤ 1000) (hr : Rd w A (cellsT l)) :
    Calls Try.prog 22 #[.slice A l.length c] w fun e w' => e = .returned (.tuple #[.bool (canG l), .int .i64 (validE l)]) ∧ Below w.heap.size w w' := by
  have HV := Lib.hid (validate_c A l c w hlen hr)
  by_cases hv : validE l = 0
  · have HB : canG l = canB l := by rw [canG, if_pos hv]
    have HD := fun w h => Lib.hid (canKeep_c A l c w (validE_ok.1 hv) h)
    rw [hv] at HV
    rw [HB, hv]
    clear HB hv
    generalize canB l = D at *
    go_enter Try.func22, Try.ntmps22
    go_wp2_with (go_at_call 18; refine HV.out.mono ?_; rintro e w1 ⟨rfl, hb1⟩)
    refine (HD _ (hr.later hb1)).out.mono ?_
    rintro e w2 ⟨rfl, hb2⟩
    go_wp2_with (fail)
    go_ret2
    exact ⟨rfl, bl_call hb1 hb2⟩
  · have HB : canG l = false := by rw [canG, if_neg hv]
    have hv' : (validE l != 0) = true := by simpa using hv
    rw [HB]
    clear HB
    generalize validE l = ev at *
    go_enter Try.func22, Try.ntmps22
    go_wp2_with (go_at_call 18; refine HV.out.mono ?_; rintro e w1 ⟨rfl, hb1⟩)
    go_ret2
    exact ⟨rfl, hb1⟩
theorem Urgent_k (A : Option Addr) (l : List T3) (c : Nat) (w : World) (hlen : l.length ≤ 1000) (hr : Rd w A (cellsT l)) :
    Calls Try.prog 25 #[.slice A l.length c] w (OutRk (urgG l) (validE l) w) := by
  have HV := Lib.hid (validate_c A l c w hlen hr)
  by_cases hv : validE l = 0
  · have HB : urgG l = urgL l := by rw [urgG, if_pos hv]
    have HD := fun w h => Lib.hid (tableBy_c A l c w (validE_ok.1 hv) h)
    rw [hv] at HV
    rw [HB, hv]
    clear HB hv
    generalize urgL l = D at *
    go_enter Try.func25, Try.ntmps25
    go_wp2_with (go_at_call 18; refine HV.out.mono ?_; rintro e w1 ⟨rfl, hb1⟩)
    refine (HD _ (hr.later hb1)).out.mono ?_
    rintro e w2 ⟨c2, rfl, hr2, hb2⟩
    go_wp2_with (fail)
    go_ret2
    exact ⟨_, c2, rfl, hr2, (fun a h => by injection h with h; rw [← h]; exact hb1.size), bl_call hb1 hb2⟩
  · have HB : urgG l = [] := by rw [urgG, if_neg hv]
    have hv' : (validE l != 0) = true := by simpa using hv
    rw [HB]
    clear HB
    generalize validE l = ev at *
    go_enter Try.func25, Try.ntmps25
    go_wp2_with (go_at_call 18; refine HV.out.mono ?_; rintro e w1 ⟨rfl, hb1⟩)
    go_ret2
    exact ⟨none, 0, rfl, Rd.nil _ _, (fun a h => by cases h), hb1⟩
theorem Urgent_c (A : Option Addr) (l : List T3) (c : Nat) (w : World) (hlen : l.length ≤ 1000) (hr : Rd w A (cellsT l)) :
    Calls Try.prog 25 #[.slice A l.length c] w (OutR (urgG l) (validE l) w) := (Urgent_k A l c w hlen hr).mono fun _ _ h => h.out
theorem Ends_c (A : Option Addr) (l : List T3) (c : Nat) (w : World) (hlen : l.length ≤ 1000) (hr : Rd w A (cellsT l)) :
    Calls Try.prog 27 #[.slice A l.length c] w (OutR (endsG l) (validE l) w) := by
  have HV := Lib.hid (validate_c A l c w hlen hr)
  by_cases hv : validE l = 0
  · have HB : endsG l = endsL l := by rw [endsG, if_pos hv]
    have HD := fun w h => Lib.hid (endsOf_c A l c w (validE_ok.1 hv) h)
    have HEL : Hid ((endsL l).length = l.length) := endsL_len l
    rw [hv] at HV
    rw [HB, hv]
    clear HB hv
    generalize endsL l = D at *
    go_enter Try.func27, Try.ntmps27
    go_wp2_with (go_at_call 18; refine HV.out.mono ?_; rintro e w1 ⟨rfl, hb1⟩)
    refine (HD _ (hr.later hb1)).out.mono ?_
    rintro e w2 ⟨rfl, hr2, hb2⟩
    go_wp2_with (fail)
    go_ret2
    exact ⟨_, l.length, by rw [HEL.out]; rfl, hr2.rd, bl_call hb1 hb2⟩
  · have HB : endsG l = [] := by rw [endsG, if_neg hv]
    have hv' : (validE l != 0) = true := by simpa using hv
    rw [HB]
    clear HB
    generalize validE l = ev at *
    go_enter Try.func27, Try.ntmps27
    go_wp2_with (go_at_call 18; refine HV.out.mono ?_; rintro e w1 ⟨rfl, hb1⟩)
    go_ret2
    exact ⟨none, 0, rfl, Rd.nil _ _, hb1⟩
/-- The table that is returned: it is that by urgency, if the jobs can be kept. -/
def tabG (l : List T3) : List Int := if canG l then urgL l else []
theorem Table_c (A : Option Addr) (l : List T3) (c : Nat) (w : World) (hlen : l.length ≤ 1000) (hr : Rd w A (cellsT l)) :
    Calls Try.prog 24 #[.slice A l.length c] w fun e w' => ∃ A' c', e = .returned (.tuple #[.slice A' (tabG l).length c', .bool (canG l), .int .i64 (validE l)]) ∧ Rd w' A' (ints (tabG l)) ∧ Below w.heap.size w w' := by
  have HV := Lib.hid (validate_c A l c w hlen hr)
  by_cases hv : validE l = 0
  · have HB : canG l = canB l := by rw [canG, if_pos hv]
    have HD := fun w h => Lib.hid (tableBy_c A l c w (validE_ok.1 hv) h)
    have HC := fun w h => Lib.hid (canKeep_c A l c w (validE_ok.1 hv) h)
    have HT : tabG l = if canB l then urgL l else [] := by rw [tabG, HB]
    rw [hv] at HV
    rw [HB, hv, HT]
    clear HB hv HT
    generalize urgL l = D at *
    cases hc : canB l with
    | true =>
      rw [hc] at HC
      rw [if_pos rfl]
      clear hc
      go_enter Try.func24, Try.ntmps24
      go_wp2_with (go_at_call 18; refine HV.out.mono ?_; rintro e w1 ⟨rfl, hb1⟩)
      refine (HC _ (hr.later hb1)).out.mono ?_
      rintro e w2 ⟨rfl, hb2⟩
      have hb12 := bl_call hb1 hb2
      go_wp2_with (fail)
      refine (HD _ (hr.later hb12)).out.mono ?_
      rintro e w3 ⟨c3, rfl, hr3, hb3⟩
      go_wp2_with (fail)
      go_ret3
      exact ⟨_, c3, rfl, hr3, bl_call hb12 hb3⟩
    | false =>
      rw [hc] at HC
      rw [if_neg (by simp)]
      clear hc
      go_enter Try.func24, Try.ntmps24
      go_wp2_with (go_at_call 18; refine HV.out.mono ?_; rintro e w1 ⟨rfl, hb1⟩)
      refine (HC _ (hr.later hb1)).out.mono ?_
      rintro e w2 ⟨rfl, hb2⟩
      go_wp2_with (fail)
      go_ret3
      exact ⟨none, 0, rfl, Rd.nil _ _, bl_call hb1 hb2⟩
  · have HB : canG l = false := by rw [canG, if_neg hv]
    have HT : tabG l = [] := by rw [tabG, HB]; rfl
    have hv' : (validE l != 0) = true := by simpa using hv
    rw [HB, HT]
    clear HB HT
    generalize validE l = ev at *
    go_enter Try.func24, Try.ntmps24
    go_wp2_with (go_at_call 18; refine HV.out.mono ?_; rintro e w1 ⟨rfl, hb1⟩)
    go_ret3
    exact ⟨none, 0, rfl, Rd.nil _ _, hb1⟩
end Go.Proofs.Ytiffgaelndajpaa
