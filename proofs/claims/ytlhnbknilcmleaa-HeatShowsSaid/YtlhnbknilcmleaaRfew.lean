/- The specification's fewest coolings: one by one, just before the first gate that is too hot. -/
import Derived.Test.YtlhnbknilcmleaaRhot
import Derived.Test.YtlhnbknilcmleaaFew
namespace Go.Proofs.Ytlhnbknilcmleaa
open Go.RowKit

theorem headT_run (g o n c i : Nat) (h : i ≤ n) (hn : n ≤ c) (w : World) : (Instr.slice 22 (.slice (some ⟨g, o, none⟩) n c) none (some (.int .i64 i)) none).run Try.prog w = .ok (.slice (some ⟨g, o, none⟩) i c) w := by
  have q1 : (i : Int) ≤ (c : Int) := by omega
  have q2 : ¬ (c : Int) = 0 ∨ c = 0 := by omega
  go_simp
theorem fromT_run (g o n c i : Nat) (h : i ≤ n) (hn : n ≤ c) (w : World) : (Instr.slice 22 (.slice (some ⟨g, o, none⟩) n c) (some (.int .i64 i)) none none).run Try.prog w = .ok (.slice (if c = i then some ⟨g, o, none⟩ else some ⟨g, o + i * 3, none⟩) (n - i) (c - i)) w := by
  have q1 : (i : Int) ≤ (n : Int) := by omega
  have q3 : (i : Int) ≤ (c : Int) := by omega
  by_cases hc : c = i
  · subst hc
    go_simp
  · have q2 : ¬ (c : Int) = (i : Int) := by omega
    go_simp
theorem fromT_rd {w : World} {b o c i : Nat} {l : List T3} (h : Rd w (some ⟨b, o, none⟩) (cellsT l)) (hc : l.length ≤ c) : Rd w (if c = i then some ⟨b, o, none⟩ else some ⟨b, o + i * 3, none⟩) (cellsT (l.drop i)) := by
  by_cases hce : c = i
  · rw [List.drop_eq_nil_iff.2 (by omega)]; exact Rd.nil _ _
  · rw [if_neg hce]; exact h.dropped i
/-- A row of threes grown by others. -/
theorem grow_rows (W : World) (base : Nat) (v : Value) (l m : List T3) (B : Option Addr) (c : Nat) (hown : W.ownsRow base 61 3 v l.length (cellsT l)) (hr : Rd W B (cellsT m)) (hlen : l.length + m.length ≤ 100000) (hb : base ≤ W.heap.size) :
    ∃ A' c' W', (∀ ty, (Builtin.append_ #[22, 22] ty #[v, .slice B m.length c]).run Try.prog W = .ok (.slice A' (l.length + m.length) c') W') ∧ W'.ownsRow base 61 3 (.slice A' (l ++ m).length c') (l ++ m).length (cellsT (l ++ m)) ∧ W.grownBy W' v.ownBlock := by
  obtain ⟨i0, hinf, hz0, hz1, hz2⟩ := info_parts act_info
  obtain ⟨A', c', W', h1, h2, h3⟩ := run_append_rows (P := Try.prog) W base 22 61 i0 _ 3 24 Try.underlying22 hinf hz0 hz1 hz2 rfl (by decide) v l.length (cellsT l) hown B m.length c (cellsT m) (by simp) (cellsT_one _) hr (by unfold maxLen; omega) (by omega) hb
  exact ⟨A', c', W', h1, by rw [cellsT_append, List.length_append]; exact h2, h3⟩
/-- An empty row, made. -/
theorem own_empty {w0 w : World} {T : TypeId} {g : Nat} (hb : w0.heap.size ≤ g) (h : Bx w g T #[]) : w.ownsRow w0.heap.size T 3 (.slice (some ⟨g, 0, none⟩) 0 0) ([] : List T3).length (cellsT []) :=
  ⟨rfl, .inr ⟨g, 0, #[], rfl, hb, h, Nat.le_refl _, by unfold maxLen; omega, rfl, rfl⟩⟩
theorem own_cap {w : World} {base size e n c : Nat} {A : Option Addr} {xs : List Value} (h : w.ownsRow base e size (.slice A n c) n xs) : n ≤ c := by
  rcases h.2 with ⟨h0, hn⟩ | ⟨g, cap, cur, hv, _, _, hn, _⟩
  · omega
  · injection hv with _ _ hc
    omega
theorem ins_at (l : List T3) (i : Nat) (a : T3) (hi : i ≤ l.length) : (l.take i ++ [a] ++ l.drop i).length = l.length + 1 := by simp; omega

set_option maxRecDepth 100000 in
set_option maxHeartbeats 8000000 in
theorem rfewest_c (A : Option Addr) (l : List T3) (c : Nat) (lim : Int) (w : World) (h20 : l.length ≤ 200) (hcap : l.length ≤ c) (ha : Acts l) (hlim : 0 ≤ lim) (hr : Rd w A (cellsT l)) :
    Calls Try.prog 67 #[.slice A l.length c, .int .i64 lim] w fun e w' => e = .returned (.int .i64 (few lim l)) ∧ Below w.heap.size w w' := by
  obtain ⟨i0, hinf, hz0, hz1, hz2⟩ := info_parts act_info
  have hfl := few_len (lim := lim) ha l.length (Nat.le_refl _)
  rw [List.take_length] at hfl
  have HT := Lib.hid (show ∃ F, F = few lim l from ⟨_, rfl⟩)
  obtain ⟨F, hF⟩ := HT.out
  rw [← hF] at hfl ⊢
  have HF := Lib.hid hF
  clear HT hF
  go_enter Try.func67, Try.ntmps67
  go_wp2_with (fail)
  go_loopg [0, 5] F (fun gk pv sv wr => ∃ (cur : List T3) (B : Option Addr) (d : Nat), pv = .slice B cur.length d ∧ cur.length ≤ d ∧ Hid (cur.length + gk = l.length + F) ∧ Hid (few lim cur = gk) ∧ sv = .int .i64 ((F : Int) - gk) ∧ Acts cur ∧ Rd wr B (cellsT cur) ∧ Below w.heap.size w wr)
  case atStart => exact ⟨l, A, c, rfl, hcap, rfl, HF.out.symm, by simp, ha, hr, Below.refl _ _⟩
  case round =>
    obtain ⟨cur, B, d, rfl, hd, HCL, HG, rfl, hac, hrc, hb⟩ := hrel
    have hcl : cur.length ≤ 1000 := by have := HCL.out; omega
    have HH := Lib.hid (rhot_c B cur d lim wr hcl hac hrc)
    cases hhot : hotL lim cur with
    | nil =>
      have hz := few_cold hac hhot
      obtain rfl : gk = 0 := by have := HG.out; omega
      rw [hhot] at HH
      clear hhot
      go_wp2_with (go_at_call 64; refine HH.out.mono ?_; rintro e w1 ⟨A1, c1, rfl, ho1, hb1⟩)
      go_ret
      exact ⟨by simp, bl_call hb hb1⟩
    | cons x t =>
      obtain ⟨i, rfl, hil, hih, hic⟩ := hotTo_first lim cur _ x t hhot
      have HFF := Lib.hid (few_first hac hlim hil hih hic)
      rw [hhot] at HH
      clear hhot hih hic
      rcases gk with _ | gi
      · exfalso
        have h1 := HFF.out
        have h2 := HG.out
        omega
      · have h4 := hac.get hil
        obtain ⟨H, hH⟩ : ∃ H, H = (i : Int) :: t := ⟨_, rfl⟩
        rw [← hH] at HH
        have hH0 : 0 < H.length := by rw [hH]; simp
        have hH1 : H.getD 0 0 = (i : Int) := by rw [hH]; rfl
        have hne : ((H.length : Int) == 0) = false := by rw [beq_eq_false_iff_ne]; omega
        have hHn : ¬ H = [] := by intro e; rw [e] at hH0; cases hH0
        clear hH
        have hil' : (i : Int) < (cur.length : Int) := by omega
        have hid : i < d := by omega
        have hile : i ≤ cur.length := by omega
        have hta := hac.take i
        have htl : (cur.take i).length = i := by rw [List.length_take]; omega
        obtain ⟨b, o, rfl, _, _, _, _⟩ := hrc.tri hil
        have hs1 := fun w1 => headT_run b o cur.length d i hile hd w1
        have hs2 := fun w1 => fromT_run b o cur.length d i hile hd w1
        obtain ⟨ion, hion⟩ : ∃ ion, ion = (cur.getD i t0).2.1 := ⟨_, rfl⟩
        rw [← hion] at HFF
        have HC : Hid (∀ w1, Below wr.heap.size wr w1 → w1.cell? ⟨b, o + i * 3 + 1, none⟩ = some (.int .i64 ion)) := fun w1 hw => by
          obtain ⟨b', o', he, h⟩ := hrc.tris hil
          injection he with he
          injection he with e1 e2
          subst e1 e2
          rw [hion]; exact (h w1 hw).2.1
        have hi0 : 0 ≤ ion := by rw [hion]; exact h4.i0
        have hi3 : ion ≤ 3 := by rw [hion]; exact h4.i3
        clear hion h4
        go_wp2_with (go_at_call 64; refine HH.out.mono ?_; rintro e w2 ⟨A1, c1, rfl, ho1, hb1⟩; obtain ⟨hb', ho', rfl, _, hcc⟩ := (own_rd ho1).1.at_ (k := 0) (by simpa using hH0); have y0 := hcc 0 _ (ints_get hH0); rw [hH1, Nat.add_zero] at y0)
        have hbw2 := bl_call hb hb1
        clear hcc y0 ho1 HH
        -- three orders of the two new blocks and the first append
        have hrw2 : Rd w2 (some ⟨b, o, none⟩) (cellsT (cur.take i)) := (hrc.later hb1).taken i
        have hlenf : (cur.take i).length + ([(2, ion, 0)] : List T3).length ≤ 100000 := by rw [htl]; simp; omega
        have hlene : ([] : List T3).length + (cur.take i).length ≤ 100000 := by rw [htl]; simp; omega
        -- the new row first, its append, then the cooling
        have hXa : Below w2.heap.size w2 ((w2.alloc (.cells #[] 61)).drew) := (bl_alloc (Below.refl _ _) _).drew
        obtain ⟨Aa, ca, Wa, Ea, oa, ga⟩ := grow_rows ((w2.alloc (.cells #[] 61)).drew) w2.heap.size _ [] (cur.take i) (some ⟨b, o, none⟩) d (own_empty (Nat.le_refl _) (Bx.new w2 _ _)) (hrw2.later hXa) hlene hXa.size
        have hWa : Below w2.heap.size w2 Wa := hXa.trans (grown_below (own_empty (Nat.le_refl _) (Bx.new w2 _ _)) ga hXa.size)
        rw [List.nil_append] at oa
        obtain ⟨Aa2, ca2, Wa2, Ea2, oa2, ga2⟩ := grow_rows (Wa.alloc (.cells #[.int .i64 2, .int .i64 ion, .int .i64 0] 61)) w2.heap.size _ (cur.take i) [(2, ion, 0)] (some ⟨Wa.heap.size, 0, none⟩) 1 (oa.alloc _) (rd_newT Wa _ [(2, ion, 0)]) hlenf (by have := hWa.size; rw [World.size_alloc]; omega)
        have hWa2 : Below w2.heap.size w2 Wa2 := (hWa.alloc hWa.size _).trans (grown_below (oa.alloc _) ga2 (by have := hWa.size; rw [World.size_alloc]; omega))
        -- both new blocks first
        have hXb : Below w2.heap.size w2 (((w2.alloc (.cells #[] 61)).alloc (.cells #[.int .i64 2, .int .i64 ion, .int .i64 0] 61)).drew) := (bl_alloc (bl_alloc (Below.refl _ _) _) _).drew
        have hBb : Bx (((w2.alloc (.cells #[] 61)).alloc (.cells #[.int .i64 2, .int .i64 ion, .int .i64 0] 61)).drew) w2.heap.size 61 #[] := ((Bx.new w2 _ _).alloc _).drew
        have hCb : Bx (((w2.alloc (.cells #[] 61)).alloc (.cells #[.int .i64 2, .int .i64 ion, .int .i64 0] 61)).drew) (w2.heap.size + 1) 61 #[.int .i64 2, .int .i64 ion, .int .i64 0] := (Bx.newAt (by simp)).drew
        obtain ⟨Ab, cb, Wb, Eb, ob, gb⟩ := grow_rows (((w2.alloc (.cells #[] 61)).alloc (.cells #[.int .i64 2, .int .i64 ion, .int .i64 0] 61)).drew) w2.heap.size _ [] (cur.take i) (some ⟨b, o, none⟩) d (own_empty (Nat.le_refl _) hBb) (hrw2.later hXb) hlene hXb.size
        have hWb : Below w2.heap.size w2 Wb := hXb.trans (grown_below (own_empty (Nat.le_refl _) hBb) gb hXb.size)
        have hCb2 : Bx Wb (w2.heap.size + 1) 61 #[.int .i64 2, .int .i64 ion, .int .i64 0] := (gb.block _ hCb.lt (fun e => by simp [Value.ownBlock] at e)).trans hCb
        rw [List.nil_append] at ob
        obtain ⟨Ab2, cb2, Wb2, Eb2, ob2, gb2⟩ := grow_rows Wb w2.heap.size _ (cur.take i) [(2, ion, 0)] (some ⟨w2.heap.size + 1, 0, none⟩) 1 ob (Bx.rd (cs := [.int .i64 2, .int .i64 ion, .int .i64 0]) hCb2) hlenf hWb.size
        have hWb2 : Below w2.heap.size w2 Wb2 := hWb.trans (grown_below ob gb2 hWb.size)
        -- the cooling first
        have hXc : Below w2.heap.size w2 (((w2.alloc (.cells #[.int .i64 2, .int .i64 ion, .int .i64 0] 61)).alloc (.cells #[] 61)).drew) := (bl_alloc (bl_alloc (Below.refl _ _) _) _).drew
        have hBc : Bx (((w2.alloc (.cells #[.int .i64 2, .int .i64 ion, .int .i64 0] 61)).alloc (.cells #[] 61)).drew) (w2.heap.size + 1) 61 #[] := (Bx.newAt (by simp)).drew
        have hCc : Bx (((w2.alloc (.cells #[.int .i64 2, .int .i64 ion, .int .i64 0] 61)).alloc (.cells #[] 61)).drew) w2.heap.size 61 #[.int .i64 2, .int .i64 ion, .int .i64 0] := ((Bx.new w2 _ _).alloc _).drew
        obtain ⟨Ac, cc, Wc, Ec, oc, gc⟩ := grow_rows (((w2.alloc (.cells #[.int .i64 2, .int .i64 ion, .int .i64 0] 61)).alloc (.cells #[] 61)).drew) w2.heap.size _ [] (cur.take i) (some ⟨b, o, none⟩) d (own_empty (by omega) hBc) (hrw2.later hXc) hlene hXc.size
        have hWc : Below w2.heap.size w2 Wc := hXc.trans (grown_below (own_empty (by omega) hBc) gc hXc.size)
        have hCc2 : Bx Wc w2.heap.size 61 #[.int .i64 2, .int .i64 ion, .int .i64 0] := (gc.block _ hCc.lt (fun e => by simp [Value.ownBlock] at e)).trans hCc
        rw [List.nil_append] at oc
        obtain ⟨Ac2, cc2, Wc2, Ec2, oc2, gc2⟩ := grow_rows Wc w2.heap.size _ (cur.take i) [(2, ion, 0)] (some ⟨w2.heap.size, 0, none⟩) 1 oc (Bx.rd (cs := [.int .i64 2, .int .i64 ion, .int .i64 0]) hCc2) hlenf hWc.size
        have hWc2 : Below w2.heap.size w2 Wc2 := hWc.trans (grown_below oc gc2 hWc.size)
        have hlen3 : (cur.take i ++ [(2, ion, 0)]).length + (cur.drop i).length ≤ 100000 := by simp; omega
        have hdl : (cur.drop i).length = cur.length - i := by simp
        have htc : (cur.take i ++ [((2 : Int), ion, (0 : Int))]).length = i + 1 := by simp; omega
        obtain ⟨Aa3, ca3, Wa3, Ea3, oa3, ga3⟩ := grow_rows Wa2 w2.heap.size _ (cur.take i ++ [(2, ion, 0)]) (cur.drop i) (some ⟨b, o + i * 3, none⟩) (d - i) oa2 ((hrc.later (bl_call hb1 hWa2)).dropped i) hlen3 hWa2.size
        have hWa3 : Below w2.heap.size w2 Wa3 := hWa2.trans (grown_below oa2 ga3 hWa2.size)
        obtain ⟨Ab3, cb3, Wb3, Eb3, ob3, gb3⟩ := grow_rows Wb2 w2.heap.size _ (cur.take i ++ [(2, ion, 0)]) (cur.drop i) (some ⟨b, o + i * 3, none⟩) (d - i) ob2 ((hrc.later (bl_call hb1 hWb2)).dropped i) hlen3 hWb2.size
        have hWb3 : Below w2.heap.size w2 Wb3 := hWb2.trans (grown_below ob2 gb3 hWb2.size)
        obtain ⟨Ac3, cc3, Wc3, Ec3, oc3, gc3⟩ := grow_rows Wc2 w2.heap.size _ (cur.take i ++ [(2, ion, 0)]) (cur.drop i) (some ⟨b, o + i * 3, none⟩) (d - i) oc2 ((hrc.later (bl_call hb1 hWc2)).dropped i) hlen3 hWc2.size
        have hWc3 : Below w2.heap.size w2 Wc3 := hWc2.trans (grown_below oc2 gc3 hWc2.size)
        obtain ⟨cur', hcur'⟩ : ∃ cur', cur' = cur.take i ++ [(2, ion, 0)] ++ cur.drop i := ⟨_, rfl⟩
        have hcl' : cur'.length = cur.length + 1 := by rw [hcur']; exact ins_at _ _ _ hile
        have hac' : Acts cur' := by rw [hcur']; exact (hta.app (acts_one (act_cool hi0 hi3))).app (hac.drop i)
        have hwr : wrap64 ((F : Int) - ((gi : Int) + 1) + 1) = (F : Int) - gi := by
          have := HCL.out
          rw [IntWalk.wrap64_in _ (by omega)]; omega
        have HREL : Hid (∀ (A3 : Option Addr) (c3 : Nat) (W3 : World), W3.ownsRow w2.heap.size 61 3 (.slice A3 cur'.length c3) cur'.length (cellsT cur') → Below w2.heap.size w2 W3 →
            ∃ (cur2 : List T3) (B : Option Addr) (d : Nat), Value.slice A3 (i + 1 + (cur.length - i)) c3 = .slice B cur2.length d ∧ cur2.length ≤ d ∧ Hid (cur2.length + gi = l.length + F) ∧ Hid (few lim cur2 = gi) ∧ Value.int .i64 (wrap64 ((F : Int) - ((gi : Int) + 1) + 1)) = .int .i64 ((F : Int) - gi) ∧ Acts cur2 ∧ Rd W3 B (cellsT cur2) ∧ Below w.heap.size w W3) := fun A3 c3 W3 ho hw => by
          refine ⟨cur', A3, c3, by rw [hcl', show i + 1 + (cur.length - i) = cur.length + 1 by omega], own_cap ho, ?_, ?_, by rw [hwr], hac', (own_rd ho).1, hbw2.trans (hw.mono hbw2.size)⟩
          · have := HCL.out; show _ = _; omega
          · have h1 := HFF.out
            have h2 := HG.out
            rw [← hcur'] at h1
            show _ = _; omega
        rw [← hcur'] at oa3 ob3 oc3
        simp only [List.length_nil, Nat.zero_add, htl, hdl, htc, List.length_singleton] at Ea Ea2 Eb Eb2 Ec Ec2 Ea3 Eb3 Ec3
        have Fa3 := Lib.hid Ea3
        have Fb3 := Lib.hid Eb3
        have Fc3 := Lib.hid Ec3
        have Fa := Lib.hid Ea
        have Fa2 := Lib.hid Ea2
        have Fb := Lib.hid Eb
        have Fb2 := Lib.hid Eb2
        have Fc := Lib.hid Ec
        have Fc2 := Lib.hid Ec2
        have y2 := HC.out w2 hb1
        have ya := HC.out Wa (bl_call hb1 hWa)
        have hbl2 : b < w2.heap.size := World.block_lt_of_cell? w2 _ y2
        have hsa := hWa.size
        clear hwr Ea Ea2 Ea3 Eb Eb2 Eb3 Ec Ec2 Ec3 hXa hXb hXc hBb hCb hBc hCc hCb2 hCc2 ga ga2 ga3 gb gb2 gb3 gc gc2 gc3 oa ob oc oa2 ob2 oc2 HFF HG HCL hcur' hcl' hac' hlen3 hdl htc hlenf hlene hta htl hrw2 hH0 hH1 hHn hne
        go_region_law (first
          | (refine step_append_run rfl (.tmp 19) (.tmp 22) 22 rfl (.slice (some ⟨w2.heap.size, 0, none⟩) 0 0) (.slice (some ⟨b, o, none⟩) i d) (.slice Aa i ca) Wa (by first | rfl | simp [Act.eval, Act.put]) (by first | rfl | simp [Act.eval, Act.put]) Fa.out ?_)
          | (refine step_append_run rfl (.tmp 19) (.tmp 22) 22 rfl (.slice (some ⟨w2.heap.size, 0, none⟩) 0 0) (.slice (some ⟨b, o, none⟩) i d) (.slice Ab i cb) Wb (by first | rfl | simp [Act.eval, Act.put]) (by first | rfl | simp [Act.eval, Act.put]) Fb.out ?_)
          | (refine step_append_run rfl (.tmp 19) (.tmp 22) 22 rfl (.slice (some ⟨w2.heap.size + 1, 0, none⟩) 0 0) (.slice (some ⟨b, o, none⟩) i d) (.slice Ac i cc) Wc (by first | rfl | simp [Act.eval, Act.put]) (by first | rfl | simp [Act.eval, Act.put]) Fc.out ?_)
          | (refine step_append_run rfl (.tmp 23) (.tmp 30) 22 rfl (.slice Aa i ca) (.slice (some ⟨Wa.heap.size, 0, none⟩) 1 1) (.slice Aa2 (i + 1) ca2) Wa2 (by first | rfl | simp [Act.eval, Act.put]) (by first | rfl | simp [Act.eval, Act.put]) Fa2.out ?_)
          | (refine step_append_run rfl (.tmp 23) (.tmp 30) 22 rfl (.slice Ab i cb) (.slice (some ⟨w2.heap.size + 1, 0, none⟩) 1 1) (.slice Ab2 (i + 1) cb2) Wb2 (by first | rfl | simp [Act.eval, Act.put]) (by first | rfl | simp [Act.eval, Act.put]) Fb2.out ?_)
          | (refine step_append_run rfl (.tmp 23) (.tmp 30) 22 rfl (.slice Ac i cc) (.slice (some ⟨w2.heap.size, 0, none⟩) 1 1) (.slice Ac2 (i + 1) cc2) Wc2 (by first | rfl | simp [Act.eval, Act.put]) (by first | rfl | simp [Act.eval, Act.put]) Fc2.out ?_))
        all_goals
          go_wp2_with (at_builtin; first
            | (refine wpList_append_eq rfl _ _ 22 rfl _ _ _ Wa3 rfl rfl Fa3.out ?_)
            | (refine wpList_append_eq rfl _ _ 22 rfl _ _ _ Wb3 rfl rfl Fb3.out ?_)
            | (refine wpList_append_eq rfl _ _ 22 rfl _ _ _ Wc3 rfl rfl Fc3.out ?_))
          go_wp2_with (fail)
          go_roundg gi
          case rel => first | exact HREL.out _ _ _ oa3 hWa3 | exact HREL.out _ _ _ ob3 hWb3 | exact HREL.out _ _ _ oc3 hWc3
          case measure => omega
end Go.Proofs.Ytlhnbknilcmleaa
