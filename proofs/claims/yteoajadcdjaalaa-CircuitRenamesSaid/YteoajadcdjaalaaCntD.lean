/- The program's table of orders. -/
import Derived.Test.YteoajadcdjaalaaCntC
namespace Go.Proofs.Yteoajadcdjaalaa
open Go.RowKit

theorem make_ints2 (n : Nat) (hn : n ≤ 1024) (w : World) : ∃ cs, (Instr.makeSlice 46 (.int .i64 n) (.int .i64 n)).run Try.prog w = .ok (.slice (some ⟨w.heap.size, 0, none⟩) n n) (w.alloc (.cells cs 3)) ∧ cs = (ints (List.replicate n 0)).toArray := by
  obtain ⟨i0, hi, hz0, hz1, hz2⟩ := info_parts int_info
  have h := run_make (P := Try.prog) w 46 3 i0 _ Try.underlying46 hi hz0 .i64 .i64 (n : Int) (n : Int) (by omega) (by omega) (by rw [hz2]; omega) (by omega)
  simp only [Int.toNat_natCast] at h
  refine ⟨_, h, ?_⟩
  rw [hz1, Nat.mul_one]
  apply Array.ext
  · simp [size_madeCells, ints]
  · intro i h1 h2
    simp [madeCells, ints, Value.cells]
    rw [Nat.mod_one]; rfl

theorem andNot_i64 (a b : Nat) (ha : a < 9223372036854775808) (hb : b < 9223372036854775808) : ∃ r : Nat, r < 9223372036854775808 ∧ bits .andNot .i64 (a : Int) (b : Int) = (r : Int) ∧ (r = 0 ↔ ∀ k, a.testBit k = true → b.testBit k = true) := by
  have h1 : (BitVec.ofInt 64 (a : Int)).toNat = a := by rw [BitVec.toNat_ofInt]; omega
  have h2 : (BitVec.ofInt 64 (b : Int)).toNat = b := by rw [BitVec.toNat_ofInt]; omega
  have hle : (BitVec.ofInt 64 (a : Int) &&& ~~~BitVec.ofInt 64 (b : Int)).toNat ≤ a := by
    rw [BitVec.toNat_and, h1]; exact Nat.and_le_left
  have hbit : ∀ k, (BitVec.ofInt 64 (a : Int) &&& ~~~BitVec.ofInt 64 (b : Int)).toNat.testBit k = (a.testBit k && !b.testBit k) := by
    intro k
    rw [BitVec.toNat_and, Nat.testBit_and, h1]
    by_cases hk : k < 64
    · have : (~~~BitVec.ofInt 64 (b : Int)).toNat.testBit k = !b.testBit k := by
        rw [BitVec.testBit_toNat, BitVec.getLsbD_not, ← BitVec.testBit_toNat, h2]; simp [hk]
      rw [this]
    · have : a.testBit k = false := Nat.testBit_lt_two_pow (Nat.lt_of_lt_of_le (show a < 2 ^ 64 by omega) (Nat.pow_le_pow_right (by omega) (by omega)))
      simp [this]
  refine ⟨(BitVec.ofInt 64 (a : Int) &&& ~~~BitVec.ofInt 64 (b : Int)).toNat, by omega, ?_, ?_⟩
  · show IntKind.wrap .i64 ((BitVec.ofInt 64 (a : Int) &&& ~~~BitVec.ofInt 64 (b : Int)).toNat : Int) = _
    generalize (BitVec.ofInt 64 (a : Int) &&& ~~~BitVec.ofInt 64 (b : Int)).toNat = r at *
    simp [IntKind.wrap, IntKind.bits, IntKind.signed]
    omega
  · constructor
    · intro h k hk
      have := hbit k
      rw [h, hk] at this
      simpa using this.symm
    · intro h
      apply Nat.eq_of_testBit_eq
      intro k
      rw [hbit k]
      cases hk : a.testBit k
      · simp
      · simp [h k hk]

theorem bit_i64 {D i : Nat} (hD : D < 1024) (hi : i < 10) : bits .and .i64 ((D : Int) / 2 ^ i) 1 = if D.testBit i then 1 else 0 := by
  have h1 : ((D : Int) / 2 ^ i) = ((D / 2 ^ i : Nat) : Int) := by simp
  have hlt : D / 2 ^ i < 1024 := Nat.lt_of_le_of_lt (Nat.div_le_self _ _) hD
  have h2 : (BitVec.ofInt 64 ((D / 2 ^ i : Nat) : Int)).toNat = D / 2 ^ i := by
    generalize D / 2 ^ i = q at *
    rw [BitVec.toNat_ofInt]; omega
  have h3 : (BitVec.ofInt 64 (1 : Int)).toNat = 1 := by decide
  have h4 := (bit_facts D hD i hi).2.2
  rw [h1]
  show IntKind.wrap .i64 ((BitVec.ofInt 64 ((D / 2 ^ i : Nat) : Int) &&& BitVec.ofInt 64 (1 : Int)).toNat : Int) = _
  rw [BitVec.toNat_and, h2, h3, Nat.and_one_is_mod, h4]
  cases D.testBit i <;> rfl

/-- The row of the program's table. -/
def pRow (l : List G) (d i : Nat) : List Int := rowF (2 ^ l.length) fun X => (pX l d i X : Int)
theorem subP_iff {l : List G} {i D : Nat} (hi : i < l.length) : subP l i D ↔ ∀ k, (bfX l i i).testBit k = true → D.testBit k = true := by
  constructor
  · intro h k hk
    rw [bfX_tb] at hk
    exact h k (by have := tb_lt hk; omega) hk
  · intro h j hj ht
    exact h j (by rw [bfX_tb]; exact ht)

set_option maxRecDepth 100000 in
set_option maxHeartbeats 2000000 in
theorem countOf_c (A : Option Addr) (l : List G) (c : Nat) (w : World) (hlen : l.length ≤ 10) (hr : Rd w A (cellsG l)) :
    Calls Try.prog 66 #[.slice A l.length c] w fun e w' => e = .returned (.int .i64 (cntL l)) ∧ Below w.heap.size w w' := by
  obtain ⟨N, hN⟩ : ∃ N, N = 2 ^ l.length := ⟨_, rfl⟩
  obtain ⟨M, hM⟩ : ∃ M, N = M + 1 := ⟨N - 1, by have : 0 < 2 ^ l.length := Nat.two_pow_pos _; omega⟩
  have hN10 : N ≤ 1024 := by rw [hN]; exact pow_ten hlen
  have HN := Lib.hid hN
  have HM := Lib.hid hM
  have HB := Lib.hid (befores_c A l c w hlen hr)
  have hsh : IntKind.i64.wrap ((2 : Int) ^ l.length) = (N : Int) := by
    have : ((2 ^ l.length : Nat) : Int) = (2 : Int) ^ l.length := by simp
    rw [← this, ← hN]; simp [IntKind.wrap, IntKind.bits, IntKind.signed]; omega
  have hl64 : (l.length : Int) ≤ 64 := by omega
  have hmk := fun w1 => make_ints2 N hN10 w1
  clear hN hM
  go_enter Try.func66, Try.ntmps66
  go_wp2_with (fail)
  refine HB.out.mono ?_
  rintro e w1 ⟨rfl, hrb, hb1⟩
  obtain ⟨cs, hmk1, hcs⟩ := hmk w1
  have hT0 : Row (w1.alloc (.cells cs 3)) w1.heap.size (List.replicate N 0) := by rw [hcs]; exact Bx.new w1 _ _
  have hbl : Below w1.heap.size w1 (w1.alloc (.cells cs 3)) := bl_alloc (Below.refl _ _) _
  have q1 := hT0.get (k := 0) (by have := HM.out; simp; omega)
  have q3 := Bx.free hT0 0
  have hset := hT0.set 0 1
  have hbs := bl_set hbl (Nat.le_refl w1.heap.size) (i := 0) (.int .i64 1)
  have hN0 : (0 : Int) < (N : Int) := by have := HM.out; omega
  have hN64 : (N : Int) ≤ 1024 := by omega
  clear hmk hcs HB
  go_wp2_with (fail)
  have hset' : Row ((w1.alloc (.cells cs 3)).setCell ⟨w1.heap.size, 0, none⟩ (.int .i64 1)) w1.heap.size (pRow l 0 0) := by
    have e : (List.replicate N (0 : Int)).set 0 1 = pRow l 0 0 := by
      rw [rowF_zero, HN.out, pRow]
      refine rowF_set (by simp [pX_start]) fun a _ h => by simp [pX_start, h]
    rw [← e]; exact hset
  rw [World.setCell_alloc_new] at hset' hbs
  go_loopg [17] N (fun gk iv wr => ∃ d : Nat, Hid (d + gk = N) ∧ iv = .int .i64 (d : Int) ∧ Row wr w1.heap.size (pRow l d 0) ∧ Below w1.heap.size w1 wr)
  case atStart => exact ⟨0, by simp [Hid], rfl, hset', hbs⟩
  case round =>
    obtain ⟨d, HD, rfl, hrow, hb⟩ := hrel
    clear hset hset' hbs q1 q3 hT0 hbl hmk1
    rcases gk with _ | gd
    · obtain rfl : d = N := by have := HD.out; omega
      have hM := HM.out
      have q1 := hrow.get (k := M) (by rw [pRow, rowF_len, ← HN.out]; omega)
      have hM2 : M < 2 ^ l.length := by rw [← HN.out]; omega
      have e : (pRow l d 0).getD M 0 = (cntL l : Int) := by
        rw [pRow, rowF_get hM2, pX_done hlen hM2 (by omega), cntL, ← HN.out, hM]; rfl
      rw [e] at q1
      subst hM
      go_wp2_with (fail)
      go_ret
      exact ⟨rfl, bl_call hb1 hb⟩
    · have hdN : d < N := by have h := HD.out; omega
      have hdN' : (d : Int) < (N : Int) := by omega
      have hd2 : d < 2 ^ l.length := by rw [← HN.out]; exact hdN
      have hd10 : d < 1024 := by omega
      obtain ⟨wo, rfl⟩ : ∃ wo : World, wo = wr := ⟨_, rfl⟩
      go_wp2_with (fail)
      go_loopg [22] l.length (fun gk jv wi => ∃ i : Nat, Hid (i + gk = l.length) ∧ jv = .int .i64 (i : Int) ∧ Row wi w1.heap.size (pRow l d i) ∧ Below w1.heap.size w1 wi)
      case atStart => exact ⟨0, by simp [Hid], rfl, hrow, hb⟩
      case round =>
        obtain ⟨i, HI, rfl, hrow2, hb2⟩ := hrel
        rcases gk with _ | gi
        · obtain rfl : i = l.length := by have := HI.out; omega
          have e : pRow l d l.length = pRow l (d + 1) 0 := rowF_congr fun X _ => by rw [pX_turn]
          rw [e] at hrow2
          go_wp2_with (fail)
          go_roundg gd
          case rel => exact ⟨d + 1, by have h := HD.out; show _ = _; omega, by go_num, hrow2, hb2⟩
          case measure => omega
        · have hil : i < l.length := by have h := HI.out; omega
          have hil' : (i : Int) < (l.length : Int) := by omega
          have hi10 : i < 10 := by omega
          have hi64 : (i : Int) ≤ 64 := by omega
          have hbit := bit_i64 hd10 hi10
          obtain ⟨r, hr63, hand, hr0⟩ := andNot_i64 (bfX l i i) d (by have := bfX_lt l i i; have : 2 ^ i ≤ 2 ^ 10 := Nat.pow_le_pow_right (by omega) (by omega); omega) (by omega)
          rw [← subP_iff hil] at hr0
          have hrb2 : Row wr w.heap.size (bfL l) := Bx.call hrb hb2
          have qb := hrb2.get (k := i) (by rw [bfL, rowF_len]; exact hil)
          rw [bfL, rowF_get hil] at qb
          have HR0 := Lib.hid hr0
          by_cases hgo : d.testBit i = false ∧ r = 0
          · obtain ⟨hb0, rfl⟩ := hgo
            have hsub : subP l i d := HR0.out.1 rfl
            rw [hb0] at hbit
            simp only [Bool.false_eq_true, if_false] at hbit
            obtain ⟨hor, hbX⟩ := (bit_facts d hd10 i hi10).2.1 hb0
            have hX2 : d + 2 ^ i < 2 ^ l.length := by
              rw [← hor]; exact Nat.or_lt_two_pow hd2 (Nat.pow_lt_pow_right (by omega) hil)
            have hN1 := pX_next hlen hd2 hil hb0 hsub
            have q1 := hrow2.get (k := d + 2 ^ i) (by rw [pRow, rowF_len]; exact hX2)
            rw [pRow, rowF_get hX2] at q1
            have q2 := hrow2.get (k := d) (by rw [pRow, rowF_len]; exact hd2)
            rw [pRow, rowF_get hd2, pX_done hlen hd2 (Nat.le_refl _)] at q2
            have q3 := Bx.free hrow2 (d + 2 ^ i)
            have hset := hrow2.set (d + 2 ^ i) (pX l d (i + 1) (d + 2 ^ i) : Int)
            have e : (pRow l d i).set (d + 2 ^ i) (pX l d (i + 1) (d + 2 ^ i) : Int) = pRow l d (i + 1) :=
              rowF_set rfl fun a _ ha => by
                rw [pX_same]
                rintro ⟨h1, h2, _⟩
                have := ((bit_facts d hd10 i hi10).2.1 hb0)
                exact ha (by have h3 : 2 ^ i ≤ a := Nat.ge_two_pow_of_testBit h1; omega)
            rw [e] at hset
            have hbs := bl_set hb2 (Nat.le_refl w1.heap.size) (i := d + 2 ^ i) (.int .i64 (pX l d (i + 1) (d + 2 ^ i) : Int))
            have hle1 := pX_le (d := d) (i := i + 1) hlen hX2
            have hle2 := oX_le (d + 2 ^ i) hlen
            have hpi : 2 ^ i ≤ 2 ^ 10 := Nat.pow_le_pow_right (by omega) (by omega)
            have horn := or_i64 d (2 ^ i) (by omega) (by omega)
            rw [hor] at horn
            have hshi : IntKind.i64.wrap ((2 : Int) ^ i) = ((2 ^ i : Nat) : Int) := by
              have : ((2 ^ i : Nat) : Int) = (2 : Int) ^ i := by simp
              rw [← this]; simp [IntKind.wrap, IntKind.bits, IntKind.signed]; omega
            have hXN : ((d + 2 ^ i : Nat) : Int) < (N : Int) := by rw [HN.out]; omega
            have hle3 : pX l d i (d + 2 ^ i) + oX l d ≤ 10000000000 := by omega
            rw [hN1] at hset hbs
            clear hN1 e hle1 hle2 hX2 hor hbX hr0 hsub
            generalize pX l d i (d + 2 ^ i) = pv at *
            generalize oX l d = ov at *
            generalize bfX l i i = bv at *
            generalize hX : d + 2 ^ i = X at *
            clear hX
            generalize 2 ^ i = s at *
            rw [Int.natCast_add] at hset hbs
            go_wp2_with (fail)
            go_region
            go_wp2_with (fail)
            go_roundg gi
            case rel => exact ⟨i + 1, by have h := HI.out; show _ = _; omega, by go_num, Bx.drew hset, hbs.drew⟩
            case measure => omega
          · have hE : pRow l d i = pRow l d (i + 1) := rowF_congr fun X _ => by
              rw [pX_same]
              rintro ⟨h1, h2, h3⟩
              refine hgo ⟨?_, HR0.out.2 h3⟩
              by_cases hX : X < 1024
              · have := ((bit_facts X hX i hi10).1 h1).2.1
                rw [h2] at this; exact this
              · have h4 : 2 ^ i ≤ 2 ^ 10 := Nat.pow_le_pow_right (by omega) (by omega)
                rename_i hXN
                rw [← HN.out] at hXN; omega
            rw [hE] at hrow2
            cases hb0 : d.testBit i with
            | true =>
              rw [hb0, if_pos rfl] at hbit
              clear hgo hr0
              generalize bfX l i i = bv at *
              go_wp2_with (fail)
              go_roundg gi
              case rel => exact ⟨i + 1, by have h := HI.out; show _ = _; omega, by go_num, hrow2, hb2⟩
              case measure => omega
            | false =>
              have hrn : ((r : Int) == 0) = false := by
                rw [beq_eq_false_iff_ne]
                intro h; exact hgo ⟨hb0, by omega⟩
              have hrn' : ¬ r = 0 := fun h => hgo ⟨hb0, h⟩
              rw [hb0] at hbit
              simp only [Bool.false_eq_true, if_false] at hbit
              clear hgo hr0
              generalize bfX l i i = bv at *
              go_wp2_with (fail)
              go_roundg gi
              case rel => exact ⟨i + 1, by have h := HI.out; show _ = _; omega, by go_num, hrow2, hb2⟩
              case measure => omega

set_option maxRecDepth 100000 in
set_option maxHeartbeats 2000000 in
theorem Count_c (n : Int) (A : Option Addr) (l : List G) (c : Nat) (w : World) (hlen : l.length ≤ 1000) (hr : Rd w A (cellsG l)) :
    Calls Try.prog 29 #[.int .i64 n, .slice A l.length c] w fun e w' => e = .returned (.tuple #[.int .i64 (if validE n l = 0 then (cntL l : Int) else 0), .int .i64 (validE n l)]) ∧ Below w.heap.size w w' := by
  have HV := Lib.hid (validate_c n A l c w hlen hr)
  have HC := fun w1 h hr1 => Lib.hid (countOf_c A l c w1 h hr1)
  by_cases hv : validE n l = 0
  · have hl10 : l.length ≤ 10 := (gatesE_ang hv).1
    rw [hv] at HV ⊢
    rw [if_pos rfl]
    generalize cntL l = k at *
    go_enter Try.func29, Try.ntmps29
    go_wp2_with (fail)
    refine HV.out.mono ?_
    rintro e w1 ⟨rfl, hb1⟩
    go_wp2_with (fail)
    refine (HC _ hl10 (hr.later hb1)).out.mono ?_
    rintro e w2 ⟨rfl, hb2⟩
    go_wp2_with (fail)
    go_ret2
    exact ⟨rfl, bl_call hb1 hb2⟩
  · rw [if_neg hv]
    generalize validE n l = ev at *
    go_enter Try.func29, Try.ntmps29
    go_wp2_with (fail)
    refine HV.out.mono ?_
    rintro e w1 ⟨rfl, hb1⟩
    go_wp2_with (fail)
    go_ret2
    exact ⟨rfl, hb1⟩
end Go.Proofs.Yteoajadcdjaalaa
