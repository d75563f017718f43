/- The sum of two pulses. -/
import Derived.Test.YtpjdojjdhbmbjaaRsum
import Derived.Test.YtpjdojjdhbmbjaaScale
import Derived.Deep.RegionHeld3
import Derived.Deep.AppendLies
namespace Go.Proofs.Ytpjdojjdhbmbjaa
open Go.RowKit

def adM (p q : List Int) : List Int := List.zipWith (fun x y => wrap64 (x + y)) p q
def adE (p q : List Int) : Int := if bothE p q = 0 then (if p.length = q.length then (if forces (adM p q) then 0 else 1) else 5) else bothE p q
def adL (p q : List Int) : List Int := if adE p q = 0 then adM p q else []
def upTo (r : List Int) (k : Nat) : List Int := (List.range r.length).map fun j => if j < k then r.getD j 0 else 0

theorem upTo_zero (r : List Int) : upTo r 0 = sameRow r.length 0 := by
  apply List.ext_getElem <;> simp [upTo, sameRow]
theorem upTo_all (r : List Int) : upTo r r.length = r := by
  apply List.ext_getElem
  · simp [upTo]
  · intro i h1 h2
    simp [upTo, h2]
theorem upTo_len (r : List Int) (k : Nat) : (upTo r k).length = r.length := by simp [upTo]
theorem upTo_set (r : List Int) (k : Nat) : (upTo r k).set k (r.getD k 0) = upTo r (k + 1) := by
  apply List.ext_getElem
  · simp [upTo]
  · intro i h1 h2
    simp only [upTo, List.getElem_set, List.getElem_map, List.getElem_range]
    by_cases h : k = i
    · subst h; simp
    · rw [if_neg h]
      by_cases h3 : i < k
      · rw [if_pos h3, if_pos (by omega)]
      · rw [if_neg h3, if_neg (by omega)]
theorem take_snoc {r : List Int} {k : Nat} (h : k < r.length) : r.take (k + 1) = r.take k ++ [r.getD k 0] := by
  rw [List.take_succ_eq_append_getElem h]; simp [h]
theorem adM_len {p q : List Int} (h : p.length = q.length) : (adM p q).length = p.length := by simp [adM, h]
theorem adM_get {p q : List Int} (h : p.length = q.length) (k : Nat) : (adM p q).getD k 0 = wrap64 (p.getD k 0 + q.getD k 0) := by
  by_cases hk : k < p.length
  · have hq : k < q.length := by omega
    simp [adM, hk, hq, List.getElem?_zipWith]
  · have hq : ¬ k < q.length := by omega
    simp only [adM, List.getD_eq_getElem?_getD, List.getElem?_eq_none (show p.length ≤ k by omega), List.getElem?_eq_none (show q.length ≤ k by omega), List.getElem?_zipWith]
    show (0 : Int) = wrap64 (0 + 0)
    decide +kernel
theorem ad_ok {p q : List Int} (h : bothE p q = 0) (hl : p.length = q.length) (ha : forces (adM p q) = true) : adE p q = 0 ∧ adL p q = adM p q := by
  have : adE p q = 0 := by rw [adE, if_pos h, if_pos hl, if_pos ha]
  exact ⟨this, by rw [adL, if_pos this]⟩
theorem ad_arg {p q : List Int} (h : bothE p q = 0) (hl : p.length = q.length) (ha : forces (adM p q) = false) : adE p q = 1 ∧ adL p q = [] := by
  have : adE p q = 1 := by rw [adE, if_pos h, if_pos hl, if_neg (by simp [ha])]
  exact ⟨this, by rw [adL, if_neg (by omega)]⟩
theorem ad_fit {p q : List Int} (h : bothE p q = 0) (hl : ¬ p.length = q.length) : adE p q = 5 ∧ adL p q = [] := by
  have : adE p q = 5 := by rw [adE, if_pos h, if_neg hl]
  exact ⟨this, by rw [adL, if_neg (by omega)]⟩
theorem ad_err {p q : List Int} (h : ¬ bothE p q = 0) : adE p q = bothE p q ∧ adL p q = [] := by
  have : adE p q = bothE p q := by rw [adE, if_neg h]
  exact ⟨this, by rw [adL, if_neg (by rw [this]; exact h)]⟩
theorem bothE_zero {p q : List Int} (h : bothE p q = 0) : validE p = 0 ∧ validE q = 0 := by
  unfold bothE at h
  by_cases hv : validE p = 0
  · rw [if_pos hv] at h; exact ⟨hv, h⟩
  · rw [if_neg hv] at h; exact absurd h hv
theorem own_far {A' : Option Addr} {k c n b : Nat} (hA : ∀ a, A' = some a → n ≤ a.block) (hb : b < n) : (Value.slice A' k c).ownBlock ≠ some b := by
  intro e
  cases A' with
  | none => simp [Value.ownBlock] at e
  | some a =>
    have := hA a rfl
    simp [Value.ownBlock] at e
    omega
/-- What both answer. -/
def AdOut (p q : List Int) (w : World) (e : Ending) (w' : World) : Prop := ∃ A' c, e = .returned (.tuple #[.slice A' (adL p q).length c, .int .i64 (adE p q)]) ∧ Rd w' A' (ints (adL p q)) ∧ Below w.heap.size w w'

set_option maxRecDepth 100000 in
set_option maxHeartbeats 800000 in
theorem add_c (A B : Option Addr) (p q : List Int) (cap cap' : Nat) (w : World) (hr : Rd w A (ints p)) (hs : Rd w B (ints q)) :
    Calls Try.prog 47 #[.slice A p.length cap, .slice B q.length cap'] w (AdOut p q w) := by
  have HV := Lib.hid (validateBoth_c A B p q cap cap' w hr hs)
  by_cases hv : bothE p q = 0
  · have hlen := validE_len (bothE_zero hv).1
    rw [hv] at HV
    by_cases hl : p.length = q.length
    · have HOK := Lib.hid (@ad_ok p q hv hl)
      have HAR := Lib.hid (@ad_arg p q hv hl)
      have hne : ((p.length : Int) != (q.length : Int)) = false := by simp [hl]
      have hml := adM_len hl
      have HG := Lib.hid (adM_get hl)
      have HL := Lib.hid hl
      obtain ⟨cs, hmk, hcs⟩ := make_ints p.length (by omega) w
      have HCS := Lib.hid hcs
      clear hcs hv hl
      generalize adM p q = r at HOK HAR hml HG
      go_enter Try.func47, Try.ntmps47
      go_wp2_with (fail)
      refine HV.out.mono ?_
      rintro e w' ⟨rfl, rfl⟩
      clear HV
      go_wp2_with (fail)
      go_loopw [25] (fun i wr => ∃ k : Nat, k ≤ p.length ∧ i = .int .i64 k ∧ Hid ((r.take k).all (fun f => inB f (-99) 99) = true) ∧ Row wr w.heap.size (upTo r k) ∧ Below w.heap.size w wr) (fun i _ => p.length - (intOf i).toNat)
      case atStart => exact ⟨0, Nat.zero_le _, rfl, by simp [Hid], by rw [upTo_zero, hml, HCS.out]; exact Bx.new w _ _, bl_alloc (Below.refl _ _) _⟩
      case round =>
        obtain ⟨k, hk, rfl, hall, hrow, hb⟩ := hrel
        clear hmk HCS
        by_cases hlt : k < p.length
        · obtain ⟨b1, o1, rfl, _, hc⟩ := (hr.later hb).at_ (k := k) (by simpa using hlt)
          have hck := hc k _ (ints_get hlt)
          clear hc
          have hltq : k < q.length := by rw [← HL.out]; exact hlt
          obtain ⟨b2, o2, rfl, _, hd⟩ := (hs.later hb).at_ (k := k) (by simpa using hltq)
          have hdk := hd k _ (ints_get hltq)
          clear hd
          have H1 := Lib.hid (all_take_succ (fun f => inB f (-99) 99) (p := r) (k := k) (by omega))
          have H2 := Lib.hid (@all_no (fun f => inB f (-99) 99) r k (by omega))
          have hg := hrow.get (k := k) (by rw [upTo_len]; omega)
          have hfr := Bx.free hrow k
          have hset := (show Row wr.drew w.heap.size (upTo r k) from hrow).set k (r.getD k 0)
          have HGk := HG.out k
          rw [upTo_set, HGk] at hset
          rw [HGk] at H1 H2
          clear HGk HG
          generalize (upTo r k).getD k 0 = old at hg
          generalize p.getD k 0 = f at hck H1 H2 hset
          generalize q.getD k 0 = g at hdk H1 H2 hset
          have hkq : (k : Int) < (q.length : Int) := by omega
          have hkp : (k : Int) < (p.length : Int) := by omega
          go_wp2_with (fail)
          go_still_tail 12, (by kernel_rfl)
          change wpList _ _ _ _ _ wr.drew
          have hb' : Below w.heap.size w wr.drew := hb.drew
          have hck' : wr.drew.cell? ⟨b1, o1 + k, none⟩ = some (.int .i64 f) := hck
          have hdk' : wr.drew.cell? ⟨b2, o2 + k, none⟩ = some (.int .i64 g) := hdk
          have hg' : wr.drew.cell? ⟨w.heap.size, k, none⟩ = some (.int .i64 old) := hg
          have hfr' : wr.drew.frozen? ⟨w.heap.size, k, none⟩ = false := hfr
          have hbs := bl_set hb' (Nat.le_refl w.heap.size) (i := k) (.int .i64 (wrap64 (f + g)))
          clear hb hck hdk hg hfr hrow hb'
          generalize wr.drew = w2 at *
          by_cases hN : inB (wrap64 (f + g)) (-99) 99 = true
          · go_wp2_with (go_at_call 61; refine (isForce_c _ _).mono ?_; rintro e w' ⟨rfl, rfl⟩)
            go_roundw
            case rel => exact ⟨k + 1, by omega, by go_num, by show _ = _; rw [H1.out, hall.out, hN]; rfl, hset, hbs⟩
            case measure => simp [intOf]; omega
          · have hN' : inB (wrap64 (f + g)) (-99) 99 = false := by simpa using hN
            have HX := HAR.out (H2.out hN')
            clear hN
            go_wp2_with (go_at_call 61; refine (isForce_c _ _).mono ?_; rintro e w' ⟨rfl, rfl⟩)
            go_ret2
            exact ⟨none, 0, by rw [HX.1, HX.2]; rfl, by rw [HX.2]; exact Rd.nil _ _, hbs⟩
        · obtain rfl : k = p.length := by omega
          have ha := hall.out
          rw [List.take_of_length_le (by omega)] at ha
          have HX := HOK.out ha
          rw [← hml, upTo_all] at hrow
          go_wp2_with (fail)
          go_ret2
          exact ⟨some ⟨w.heap.size, 0, none⟩, p.length, by rw [HX.1, HX.2, hml]; rfl, by rw [HX.2]; exact hrow.rd, hb⟩
    · have hne : ((p.length : Int) != (q.length : Int)) = true := by simp; omega
      have HX := ad_fit hv hl
      clear hv hl
      go_enter Try.func47, Try.ntmps47
      go_wp2_with (fail)
      refine HV.out.mono ?_
      rintro e w' ⟨rfl, rfl⟩
      go_wp2_with (fail)
      go_ret2
      exact ⟨none, 0, by rw [HX.1, HX.2]; rfl, by rw [HX.2]; exact Rd.nil _ _, Below.refl _ _⟩
  · have hv' : (bothE p q != 0) = true := by simpa using hv
    have HX := ad_err hv
    clear hv
    go_enter Try.func47, Try.ntmps47
    go_wp2_with (fail)
    refine HV.out.mono ?_
    rintro e w' ⟨rfl, rfl⟩
    go_wp2_with (fail)
    go_ret2
    exact ⟨none, 0, by rw [HX.1, HX.2]; rfl, by rw [HX.2]; exact Rd.nil _ _, Below.refl _ _⟩
set_option maxRecDepth 100000 in
set_option maxHeartbeats 800000 in
theorem radd_c (A B : Option Addr) (p q : List Int) (cap cap' : Nat) (w : World) (hr : Rd w A (ints p)) (hs : Rd w B (ints q)) :
    Calls Try.prog 48 #[.slice A p.length cap, .slice B q.length cap'] w (AdOut p q w) := by
  obtain ⟨i0, hi, hz0, hz1, hz2⟩ := info_parts int_info
  have HV := Lib.hid (rboth_c A B p q cap cap' w hr hs)
  by_cases hv : bothE p q = 0
  · have hlen := validE_len (bothE_zero hv).1
    rw [hv] at HV
    by_cases hl : p.length = q.length
    · have HOK := Lib.hid (@ad_ok p q hv hl)
      have HAR := Lib.hid (@ad_arg p q hv hl)
      have hne : ((p.length : Int) != (q.length : Int)) = false := by simp [hl]
      have hml := adM_len hl
      have HG := Lib.hid (adM_get hl)
      have HL := Lib.hid hl
      clear hv hl
      generalize adM p q = r at HOK HAR hml HG
      go_enter Try.func48, Try.ntmps48
      go_wp2_with (fail)
      refine HV.out.mono ?_
      rintro e w' ⟨rfl, rfl⟩
      clear HV
      go_wp2_with (fail)
      go_loopw [7, 8] (fun v i wr => ∃ k : Nat, k ≤ p.length ∧ i = .int .i64 k ∧ wr.ownsRow w.heap.size 3 1 v k (ints (r.take k)) ∧ Below w.heap.size w wr) (fun _ i _ => p.length - (intOf i).toNat)
      case atStart => exact ⟨0, Nat.zero_le _, rfl, World.ownsRow_nil _ _ _ _, Below.refl _ _⟩
      case round =>
        obtain ⟨k, hk, rfl, hown, hb⟩ := hrel
        by_cases hlt : k < p.length
        · obtain ⟨b1, o1, rfl, _, hc⟩ := (hr.later hb).at_ (k := k) (by simpa using hlt)
          have hck := hc k _ (ints_get hlt)
          clear hc
          have hltq : k < q.length := by rw [← HL.out]; exact hlt
          obtain ⟨b2, o2, rfl, _, hd⟩ := (hs.later hb).at_ (k := k) (by simpa using hltq)
          have hdk := hd k _ (ints_get hltq)
          clear hd
          have HT := Lib.hid (take_snoc (r := r) (k := k) (by omega))
          have HGk := HG.out k
          rw [HGk] at HT
          clear HGk HG
          generalize p.getD k 0 = f at hck HT
          generalize q.getD k 0 = g at hdk HT
          generalize r.take k = L at hown HT
          have hkq : (k : Int) < (q.length : Int) := by omega
          have hkp : (k : Int) < (p.length : Int) := by omega
          obtain ⟨A', c, rfl⟩ := own_form hown
          have hA := (own_rd hown).2
          have hbl1 := hr.blk _ rfl (by intro e; simp [ints] at e; subst e; simp at hlt)
          have hbl2 := hs.blk _ rfl (by intro e; simp [ints] at e; subst e; simp at hltq)
          have ho1 : (Value.slice A' k c).ownBlock ≠ some b1 := own_far hA hbl1
          have ho2 : (Value.slice A' k c).ownBlock ≠ some b2 := own_far hA hbl2
          have hk0 : (0 : Int) ≤ (k : Int) := Int.natCast_nonneg _
          have hwr := hb.size
          simp only at hbl1 hbl2
          go_wp2_with (fail)
          go_region_held3 (fun w' => w'.cell? ⟨b1, o1 + k, none⟩ = some (.int .i64 f) ∧ w'.cell? ⟨b2, o2 + k, none⟩ = some (.int .i64 g))
            (first
              | go_keep
              | (go_split_ands
                 refine ⟨?_, ?_⟩
                 · (rw [hgrow.cell_far _ (by simp; omega) (Ne.symm ho1)]; assumption)
                 · (rw [hgrow.cell_far _ (by simp; omega) (Ne.symm ho2)]; assumption)))
            ((refine step_append_lies _ (by rfl) _ _ _ (by rfl) w.heap.size 3 i0 _ 1 8 Try.underlying22 hi hz0 hz1 hz2 rfl (by omega) (.slice A' k c) k (ints L) (by rfl) ((hown.alloc _).drew)
                ⟨wr.heap.size, 0, none⟩ 1 1 [.int .i64 (IntKind.i64.wrap (f + g))] (by rfl) (by rfl) (World.news_of_block (cs := #[.int .i64 (IntKind.i64.wrap (f + g))]) (t := 3) (fr := (0, 0)) (heap_alloc_new wr _)) (by simp [Value.oneCell'])
                (by omega) (by unfold maxLen; omega) (by omega) (by have := hb.size; simp; omega) (wr.heap.size + 1) (by simp) ?_; intro gg cap1 w4 hown4 hgrow hat hlt4))
          go_wp2_with (fail)
          have hb4 : Below w.heap.size w w4 := ((bl_alloc hb (.cells #[.int .i64 (IntKind.i64.wrap (f + g))] 3)).drew).trans (grown_below (base := w.heap.size) (size := 1) (n := k) (xs := ints L) (e := 3) ((hown.alloc _).drew) hgrow (by simp; omega))
          have hwv : IntKind.i64.wrap (f + g) = wrap64 (f + g) := IntWalk.i64_left _
          have HO : Hid (w4.ownsRow w.heap.size 3 1 (.slice (some ⟨gg, 0, none⟩) (k + 1) cap1) (k + 1) (ints (r.take (k + 1)))) := by
            show World.ownsRow _ _ _ _ _ _ _
            rw [HT.out, ints_snoc, ← hwv]; exact hown4
          refine ⟨⟨k + 1, by omega, by go_num, HO.out, hb4⟩, ?_⟩
          simp [intOf]; omega
        · obtain rfl : k = p.length := by omega
          rw [List.take_of_length_le (by omega)] at hown
          obtain ⟨A', c, rfl⟩ := own_form hown
          have hrd := (own_rd hown).1
          have HV2 := fun cap => Lib.hid (rvalidate_c A' r cap wr hrd)
          rw [hml] at HV2
          have hve : validE r = if forces r then 0 else 1 := by rw [validE, if_pos (by omega)]
          rw [hve] at HV2
          clear hve
          cases hq : forces r with
          | true =>
            rw [hq] at HV2
            have HX := HOK.out hq
            go_wp2_with (fail)
            refine (HV2 _).out.mono ?_
            rintro e w' ⟨rfl, rfl⟩
            go_wp2_with (fail)
            go_ret2
            exact ⟨A', c, by rw [HX.1, HX.2, hml]; rfl, by rw [HX.2]; exact hrd, hb⟩
          | false =>
            rw [hq] at HV2
            have HX := HAR.out hq
            go_wp2_with (fail)
            refine (HV2 _).out.mono ?_
            rintro e w' ⟨rfl, rfl⟩
            go_wp2_with (fail)
            go_ret2
            exact ⟨none, 0, by rw [HX.1, HX.2]; rfl, by rw [HX.2]; exact Rd.nil _ _, hb⟩
    · have hne : ((p.length : Int) != (q.length : Int)) = true := by simp; omega
      have HX := ad_fit hv hl
      clear hv hl
      go_enter Try.func48, Try.ntmps48
      go_wp2_with (fail)
      refine HV.out.mono ?_
      rintro e w' ⟨rfl, rfl⟩
      go_wp2_with (fail)
      go_ret2
      exact ⟨none, 0, by rw [HX.1, HX.2]; rfl, by rw [HX.2]; exact Rd.nil _ _, Below.refl _ _⟩
  · have hv' : (bothE p q != 0) = true := by simpa using hv
    have HX := ad_err hv
    clear hv
    go_enter Try.func48, Try.ntmps48
    go_wp2_with (fail)
    refine HV.out.mono ?_
    rintro e w' ⟨rfl, rfl⟩
    go_wp2_with (fail)
    go_ret2
    exact ⟨none, 0, by rw [HX.1, HX.2]; rfl, by rw [HX.2]; exact Rd.nil _ _, Below.refl _ _⟩
end Go.Proofs.Ytpjdojjdhbmbjaa
