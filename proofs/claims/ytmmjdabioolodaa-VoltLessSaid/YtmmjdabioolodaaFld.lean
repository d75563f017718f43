/- Rows of numbers of a call's own; equal lists; the field of voltages: package volt's contracts. -/
import Derived.Test.YtmmjdabioolodaaVal
namespace Go.Proofs.Ytmmjdabioolodaa
open Go.RowKit

def Row (w : World) (g : Nat) (xs : List Int) : Prop := Bx w g 3 (ints xs).toArray
section
variable {w w' : World} {g : Nat} {xs : List Int}
theorem Row.get (h : Row w g xs) {k : Nat} (hk : k < xs.length) : w.cell? ⟨g, k, none⟩ = some (.int .i64 (xs.getD k 0)) := by
  rw [Bx.cell h k]; simp [ints, hk]
theorem Row.set (h : Row w g xs) (k : Nat) (v : Int) : Row (w.setCell ⟨g, k, none⟩ (.int .i64 v)) g (xs.set k v) := by
  have := Bx.set h k (.int .i64 v)
  have e : (ints xs).toArray.setIfInBounds k (.int .i64 v) = (ints (xs.set k v)).toArray := by simp [ints]
  rw [e] at this
  exact this
theorem Row.rd (h : Row w g xs) : Rd w (some ⟨g, 0, none⟩) (ints xs) := by
  refine .inr ⟨g, 0, rfl, Bx.lt h, fun k v hv => ?_⟩
  rw [Nat.zero_add, Bx.cell h k]; simpa using hv
theorem Row.call (h : Row w g xs) (hb : Below w.heap.size w w') : Row w' g xs := Bx.call h hb
theorem Row.lt (h : Row w g xs) : g < w.heap.size := Bx.lt h
theorem Row.free (h : Row w g xs) (k : Nat) : w.frozen? ⟨g, k, none⟩ = false := Bx.free h k
theorem Row.mod {S : Nat → Prop} (h : Row w g xs) (hm : Mod S w w') (hn : ¬ S g) : Row w' g xs := Bx.mod h hm hn
theorem Row.alloc (h : Row w g xs) (o : Obj) : Row (w.alloc o) g xs := Bx.alloc h o
theorem Row.own {n : Nat} (h : Row w g xs) (hl : xs.length = n) {base : Nat} (hb : base ≤ g) (hn : n ≤ 1000) : w.ownsRow base 3 1 (.slice (some ⟨g, 0, none⟩) n n) n (ints xs) :=
  ⟨by simp [hl], .inr ⟨g, n, (ints xs).toArray, rfl, hb, h, Nat.le_refl _, by unfold maxLen; omega, by simp [hl], by rw [List.take_of_length_le (by simp [hl])]⟩⟩
end
theorem make_ints (n : Nat) (hn : n ≤ 1024) (w : World) : ∃ cs, (Instr.makeSlice 23 (.int .i64 n) (.int .i64 n)).run Try.prog w = .ok (.slice (some ⟨w.heap.size, 0, none⟩) n n) (w.alloc (.cells cs 3)) ∧ cs = (ints (List.replicate n 0)).toArray := by
  obtain ⟨i0, hi, hz0, hz1, hz2⟩ := info_parts int_info
  have h := run_make (P := Try.prog) w 23 3 i0 _ Try.underlying23 hi hz0 .i64 .i64 (n : Int) (n : Int) (by omega) (by omega) (by rw [hz2]; omega) (by omega)
  simp only [Int.toNat_natCast] at h
  refine ⟨_, h, ?_⟩
  rw [hz1, Nat.mul_one]
  apply Array.ext
  · simp [size_madeCells, ints]
  · intro i h1 h2
    simp [madeCells, ints, Value.cells]
    rw [Nat.mod_one]; rfl

theorem take_same {p q : List Int} {k : Nat} (hp : k < p.length) (hq : k < q.length) (h : p.take k = q.take k) (he : p.getD k 0 = q.getD k 0) : p.take (k + 1) = q.take (k + 1) := by
  rw [List.take_succ_eq_append_getElem hp, List.take_succ_eq_append_getElem hq, h]
  simp [hp, hq] at he
  rw [he]
theorem not_same {p q : List Int} {k : Nat} (he : p.getD k 0 ≠ q.getD k 0) : decide (p = q) = false := by
  simp only [decide_eq_false_iff_not]
  rintro rfl
  exact he rfl

set_option maxHeartbeats 1000000 in
theorem sameInts_c (A B : Option Addr) (p q : List Int) (cap cap' : Nat) (w : World) (hlen : p.length ≤ 9223372036854775806) (hr : Rd w A (ints p)) (hq : Rd w B (ints q)) :
    Calls Try.prog 23 #[.slice A p.length cap, .slice B q.length cap'] w fun e w' => e = .returned (.bool (decide (p = q))) ∧ Below w.heap.size w w' := by
  by_cases hl : p.length = q.length
  · have hne : ((p.length : Int) != (q.length : Int)) = false := by simp [hl]
    have HL := Lib.hid hl
    clear hl
    go_enter Try.func23, Try.ntmps23
    go_wp2
    go_loopw [5] (fun i wr => ∃ k : Nat, k ≤ p.length ∧ i = .int .i64 k ∧ Hid (p.take k = q.take k) ∧ Below w.heap.size w wr) (fun i _ => p.length - (intOf i).toNat)
    case atStart => exact ⟨0, Nat.zero_le _, rfl, by simp [Hid], Below.refl _ _⟩
    case round =>
      obtain ⟨k, hk, rfl, ht, hb⟩ := hrel
      by_cases hlt : k < p.length
      · have hlt' : k < q.length := by have := HL.out; omega
        obtain ⟨b, o, rfl, _, hc⟩ := (hr.later hb).at_ (k := k) (by simpa using hlt)
        obtain ⟨b', o', rfl, _, hc'⟩ := (hq.later hb).at_ (k := k) (by simpa using hlt')
        have hck := hc k _ (ints_get hlt)
        have hck' := hc' k _ (ints_get hlt')
        clear hc hc'
        have H1 := Lib.hid (take_same hlt hlt' ht.out)
        have H2 := Lib.hid (@not_same p q k)
        generalize p.getD k 0 = f at hck H1 H2
        generalize q.getD k 0 = g at hck' H1 H2
        by_cases hfg : (f != g) = true
        · go_wp2
          go_quiet (fail)
          go_wp2
          go_ret
          exact ⟨ret_b (H2.out (by simpa using hfg)), below_drewN hb _⟩
        · have hfg' : (f != g) = false := by simpa using hfg
          clear hfg
          go_wp2
          go_quiet (fail)
          go_wp2
          go_roundw
          case rel => exact ⟨k + 1, by omega, by go_num, H1.out (by simpa using hfg'), below_drewN hb _⟩
          case measure => simp [intOf]; omega
      · obtain rfl : k = p.length := by omega
        go_wp2
        go_ret
        exact ⟨ret_b (by have h := ht.out; rw [List.take_length, HL.out, List.take_length] at h; simp [h]), hb⟩
  · have hne : ((p.length : Int) != (q.length : Int)) = true := by simp; omega
    have hd : decide (p = q) = false := by simp only [decide_eq_false_iff_not]; rintro rfl; exact hl rfl
    go_enter Try.func23, Try.ntmps23
    go_wp2
    go_ret
    exact ⟨ret_b hd, Below.refl _ _⟩
set_option maxHeartbeats 1000000 in
theorem equal_c (A B : Option Addr) (p q : List Int) (cap cap' : Nat) (w : World) (hlen : p.length ≤ 9223372036854775806) (hr : Rd w A (ints p)) (hq : Rd w B (ints q)) :
    Calls Try.prog 66 #[.slice A p.length cap, .slice B q.length cap'] w fun e w' => e = .returned (.bool (decide (p = q))) ∧ Below w.heap.size w w' := by
  by_cases hl : p.length = q.length
  · have hne : ((p.length : Int) != (q.length : Int)) = false := by simp [hl]
    have HL := Lib.hid hl
    clear hl
    go_enter Try.func66, Try.ntmps66
    go_wp2
    go_loopw [13] (fun i wr => ∃ k : Nat, k ≤ p.length ∧ i = .int .i64 k ∧ Hid (p.take k = q.take k) ∧ Below w.heap.size w wr) (fun i _ => p.length - (intOf i).toNat)
    case atStart => exact ⟨0, Nat.zero_le _, rfl, by simp [Hid], Below.refl _ _⟩
    case round =>
      obtain ⟨k, hk, rfl, ht, hb⟩ := hrel
      by_cases hlt : k < p.length
      · have hlt' : k < q.length := by have := HL.out; omega
        obtain ⟨b, o, rfl, _, hc⟩ := (hr.later hb).at_ (k := k) (by simpa using hlt)
        obtain ⟨b', o', rfl, _, hc'⟩ := (hq.later hb).at_ (k := k) (by simpa using hlt')
        have hck := hc k _ (ints_get hlt)
        have hck' := hc' k _ (ints_get hlt')
        clear hc hc'
        have H1 := Lib.hid (take_same hlt hlt' ht.out)
        have H2 := Lib.hid (@not_same p q k)
        generalize p.getD k 0 = f at hck H1 H2
        generalize q.getD k 0 = g at hck' H1 H2
        by_cases hfg : (f != g) = true
        · go_wp2
          go_quiet (fail)
          go_wp2
          go_ret
          exact ⟨ret_b (H2.out (by simpa using hfg)), below_drewN hb _⟩
        · have hfg' : (f != g) = false := by simpa using hfg
          clear hfg
          go_wp2
          go_quiet (fail)
          go_wp2
          go_roundw
          case rel => exact ⟨k + 1, by omega, by go_num, H1.out (by simpa using hfg'), below_drewN hb _⟩
          case measure => simp [intOf]; omega
      · obtain rfl : k = p.length := by omega
        go_wp2
        go_ret
        exact ⟨ret_b (by have h := ht.out; rw [List.take_length, HL.out, List.take_length] at h; simp [h]), hb⟩
  · have hne : ((p.length : Int) != (q.length : Int)) = true := by simp; omega
    have hd : decide (p = q) = false := by simp only [decide_eq_false_iff_not]; rintro rfl; exact hl rfl
    go_enter Try.func66, Try.ntmps66
    go_wp2
    go_ret
    exact ⟨ret_b hd, Below.refl _ _⟩

/-- The field, up to the point k, where the sum is s so far. -/
def fPart (g : List (List Int)) (v : List Int) (k : Nat) (s : Int) : List Int := (List.range g.length).map fun i => if i < k then fAt g v i else if i = k then s else 0
@[simp] theorem fPart_len (g : List (List Int)) (v : List Int) (k : Nat) (s : Int) : (fPart g v k s).length = g.length := by simp [fPart]
theorem fPart_zero (g : List (List Int)) (v : List Int) : fPart g v 0 0 = List.replicate g.length 0 := by
  refine list_ext (by simp) fun i hi => ?_
  have hi' : i < g.length := by simpa using hi
  rw [zeros_get]
  simp [fPart, hi']
theorem fPart_get {g : List (List Int)} {v : List Int} {k : Nat} {s : Int} (h : k < g.length) : (fPart g v k s).getD k 0 = s := by simp [fPart, h]
theorem fPart_set (g : List (List Int)) (v : List Int) (k : Nat) (s t : Int) : (fPart g v k s).set k t = fPart g v k t := by
  refine List.ext_getElem (by simp) fun i h1 h2 => ?_
  rw [List.getElem_set]
  simp only [fPart, List.getElem_map, List.getElem_range]
  split
  · rename_i h; subst h; simp
  · rename_i h; split
    · rfl
    · rw [if_neg (by omega), if_neg (by omega)]
theorem fPart_next (g : List (List Int)) (v : List Int) (k : Nat) : fPart g v k (fAt g v k) = fPart g v (k + 1) 0 := by
  refine List.ext_getElem (by simp) fun i h1 h2 => ?_
  simp only [fPart, List.getElem_map, List.getElem_range]
  by_cases h : i < k
  · rw [if_pos h, if_pos (by omega)]
  · by_cases h' : i = k
    · subst h'; simp
    · rw [if_neg h, if_neg h', if_neg (by omega)]; simp
theorem fPart_all (g : List (List Int)) (v : List Int) : fPart g v g.length 0 = fieldL g v := by
  refine List.ext_getElem (by simp) fun i h1 h2 => ?_
  have h : i < g.length := by simpa using h1
  simp [fPart, fieldL, h]
set_option maxRecDepth 100000 in
set_option maxHeartbeats 4000000 in
theorem fieldOf_c (A B : Option Addr) (R : Rows) (g : List (List Int)) (v : List Int) (cap cap' : Nat) (w : World) (hg : OkG g) (hv : OkV v (wires g) 3) (hr : RT w A R g) (hs : Rd w B (ints v)) :
    Calls Try.prog 56 #[.slice A g.length cap, .slice B v.length cap'] w fun e w' => e = .returned (.slice (some ⟨w.heap.size, 0, none⟩) g.length g.length) ∧ Row w' w.heap.size (fieldL g v) ∧ Below w.heap.size w w' := by
  have hp := hg.pts
  have hw := hg.wrs
  have hvl := hv.len
  obtain ⟨cs, hmk, hcs⟩ := make_ints g.length (by omega) w
  have hR0 : Row (w.alloc (.cells cs 3)) w.heap.size (fPart g v 0 0) := by rw [hcs, fPart_zero]; exact Bx.new w _ _
  have hbl : Below w.heap.size w (w.alloc (.cells cs 3)) := bl_alloc (Below.refl _ _) _
  have HA := Lib.hid (fPart_all g v)
  obtain ⟨b2, o2, rfl, _, HB⟩ := hs.num (by omega)
  replace HB := Lib.hid HB
  have HVL := Lib.hid hvl
  have hv3 : v.length ≤ 3 := by omega
  clear hcs hvl
  go_enter Try.func56, Try.ntmps56
  go_wp2_with (fail)
  generalize w.alloc (.cells cs 3) = w0 at *
  go_loopg [15] g.length (fun gk iv wr => ∃ k : Nat, Hid (k + gk = g.length) ∧ iv = .int .i64 (k : Int) ∧ Row wr w.heap.size (fPart g v k 0) ∧ Below w.heap.size w wr)
  case atStart => exact ⟨0, by simp [Hid], rfl, hR0, hbl⟩
  case round =>
    clear hR0 hbl hmk
    obtain ⟨k, HK, rfl, hR, hb⟩ := hrel
    rcases gk with _ | gi
    · obtain rfl : k = g.length := HK.out
      go_wp2_with (fail)
      go_ret
      exact ⟨rfl, by rw [← HA.out]; exact hR, hb⟩
    · have hkN : k < g.length := by have := HK.out; omega
      have hkN' : (k : Int) < (g.length : Int) := by omega
      have hrk := hr.later hb
      obtain ⟨b, o, rfl, hbl2, hc⟩ := hrk.at_ hkN
      have hrow := hg.row k hkN
      have hrl := hrow.len
      obtain ⟨b1, o1, hR1, _, HC1⟩ := (hr.row k hkN).num (by omega)
      replace HC1 := Lib.hid HC1
      have HD := Lib.hid (fun j => (dot_bound hrow hv j))
      have HPB := Lib.hid (fun j => (prod_bound hrow hv j))
      have HN : Hid (fPart g v k (dotTo (g.getD k []) v (wires g)) = fPart g v (k + 1) 0) := fPart_next g v k
      have HDS : Hid (∀ j, dotTo (g.getD k []) v (j + 1) = dotTo (g.getD k []) v j + (g.getD k []).getD j 0 * v.getD j 0) := fun j => rfl
      have HD0 : Hid (dotTo (g.getD k []) v 0 = 0) := rfl
      rw [← hrl] at HN
      rw [hrl, ← HVL.out, hR1] at hc
      have HRL := Lib.hid (hrl.trans HVL.out.symm)
      clear hrow hrk hrl hR1
      go_wp2_with (fail)
      go_loopg [22] v.length (fun gk jv wq => ∃ j : Nat, Hid (j + gk = v.length) ∧ jv = .int .i64 (j : Int) ∧ Row wq w.heap.size (fPart g v k (dotTo (g.getD k []) v j)) ∧ Below w.heap.size w wq)
      case atStart => exact ⟨0, by simp [Hid], rfl, by rw [HD0.out]; exact hR, hb⟩
      case round =>
        clear hR hb
        obtain ⟨j, HJ, rfl, hR, hb⟩ := hrel
        rcases gk with _ | gj
        · obtain rfl : j = v.length := HJ.out
          rw [← HRL.out, HN.out] at hR
          go_wp2_with (fail)
          go_roundg gi
          case rel => exact ⟨k + 1, by have := HK.out; show _ = _; omega, by go_num, hR, hb⟩
          case measure => omega
        · have hjN : j < v.length := by have := HJ.out; omega
          have hjN' : (j : Int) < (v.length : Int) := by omega
          have c1 := HC1.out wr hb j (by rw [HRL.out]; exact hjN)
          have c2 := HB.out wr hb j hjN
          have c3 := hR.get (k := k) (by simpa using hkN)
          have c4 := hR.free k
          rw [fPart_get hkN] at c3
          have q1 := HPB.out j
          have q2 := HD.out j
          have q3 : wrap64 ((g.getD k []).getD j 0 * v.getD j 0) = (g.getD k []).getD j 0 * v.getD j 0 := IntWalk.wrap64_in _ ⟨by omega, by omega⟩
          have q4 : wrap64 (dotTo (g.getD k []) v j + (g.getD k []).getD j 0 * v.getD j 0) = dotTo (g.getD k []) v j + (g.getD k []).getD j 0 * v.getD j 0 := IntWalk.wrap64_in _ ⟨by omega, by omega⟩
          have hset := hR.set k (dotTo (g.getD k []) v j + (g.getD k []).getD j 0 * v.getD j 0)
          rw [fPart_set] at hset
          replace hset : Row (wr.setCell ⟨w.heap.size, k, none⟩ (.int .i64 (dotTo (g.getD k []) v j + (g.getD k []).getD j 0 * v.getD j 0))) w.heap.size (fPart g v k (dotTo (g.getD k []) v (j + 1))) := hset
          have HSET := Lib.hid hset
          have hbs := bl_set hb (g := w.heap.size) (i := k) (Nat.le_refl _) (.int .i64 (dotTo (g.getD k []) v j + (g.getD k []).getD j 0 * v.getD j 0))
          clear hset q1 q2
          generalize dotTo (g.getD k []) v j = D0 at *
          generalize (g.getD k []).getD j 0 = x at *
          generalize v.getD j 0 = y at *
          go_wp2_with (fail)
          go_region
          go_wp2_with (fail)
          go_roundg gj
          case rel => exact ⟨j + 1, by have := HJ.out; show _ = _; omega, by go_num, HSET.out, hbs.drew⟩
          case measure => omega
/-- The field of lists that are not voltages is nil. -/
def fieldG (g : List (List Int)) (v : List Int) : List Int := if (okG g && okL g v) = true then fieldL g v else []
theorem okL_each (g : List (List Int)) (v : List Int) : eachN [v] (wires g) 3 [v].length = okL g v := by
  show (true && _) = _
  rfl
set_option maxHeartbeats 1000000 in
theorem Field_c (A B : Option Addr) (R : Rows) (g : List (List Int)) (v : List Int) (cap cap' : Nat) (w : World) (hl : Brief g) (hl' : v.length ≤ 1000) (hr : RT w A R g) (hs : Rd w B (ints v)) :
    Calls Try.prog 19 #[.slice A g.length cap, .slice B v.length cap'] w (OutI (fieldG g v) (errB (okG g && okL g v)) w) := by
  have hb0 := bl_alloc (Below.refl w.heap.size w) (.cells #[.slice B v.length cap'] 23)
  have HV := Lib.hid (validateVolts_c A _ R (two B B cap' cap') g [v] cap 1 _ hl ⟨by simp, fun k hk => by
    match k, hk with
    | 0, _ => exact hl'⟩ (hr.later hb0) (rt_one (c := cap') 23 hs))
  rw [okL_each] at HV
  have HF := fun (h : (okG g && okL g v) = true) w1 (hb : Below w.heap.size w w1) => Lib.hid (fieldOf_c A B R g v cap cap' w1 (okG_iff.1 (by rw [Bool.and_eq_true] at h; exact h.1)) ((okN_iff (by decide)).1 (by rw [Bool.and_eq_true] at h; exact h.2)) (hr.later hb) (hs.later hb))
  have hp := fun (h : (okG g && okL g v) = true) => (okG_iff.1 (by rw [Bool.and_eq_true] at h; exact h.1)).pts
  unfold OutI fieldG
  generalize (okG g && okL g v) = x at HV HF hp
  cases x with
  | false =>
    clear HF hp
    go_enter Try.func19, Try.ntmps19
    go_wp2_with (fail)
    refine HV.out.mono ?_
    rintro e w1 ⟨rfl, hb1⟩
    rw [errB_f]
    go_wp2_with (fail)
    go_ret2
    exact ⟨none, 0, rfl, World.ownsRow_nil _ _ _ _, bl_call hb0 hb1⟩
  | true =>
    have hp := hp rfl
    rw [if_pos rfl]
    replace HF := HF rfl
    have hfl := fieldL_len g v
    generalize fieldL g v = F at *
    go_enter Try.func19, Try.ntmps19
    go_wp2_with (fail)
    refine HV.out.mono ?_
    rintro e w1 ⟨rfl, hb1⟩
    rw [errB_t]
    have hb01 := bl_call hb0 hb1
    go_wp2_with (fail)
    refine (HF _ hb01).out.mono ?_
    rintro e w2 ⟨rfl, hR, hb2⟩
    have hown := hR.own hfl hb01.size (by omega)
    go_wp2_with (fail)
    go_ret2
    exact ⟨some ⟨w1.heap.size, 0, none⟩, g.length, by rw [hfl]; rfl, by rw [hfl]; exact hown, bl_call hb01 hb2⟩
end Go.Proofs.Ytmmjdabioolodaa
