/- Two maps held against each other: maps.Equal at this program's maps. -/
import Derived.Test.YtbbhaongakmhpaaBof
import Derived.Laws.IdiomRangeMap
namespace Go.Proofs.Ytbbhaongakmhpaa
open Go.RowKit Go.Maps

theorem keyInv (k : Value) (kl : Lit) (h : keyOf Try.prog 3 k = some kl) : ∃ x : Int, k = (fun x => Value.int .i64 x) x := by
  obtain ⟨x, rfl, _, _⟩ := Maps.keyOf_int_inv Try.underlying3 h
  exact ⟨x, rfl⟩
theorem arrInv (v : Value) (y : DataW Unit × List MemPlace) (h : arrE v = some y) : ∃ c : Int × Int, v = (fun c : Int × Int => Value.agg #[.int .i64 c.1, .int .i64 c.2]) c := by
  obtain ⟨a, b, rfl, _⟩ := arrE_inv h
  exact ⟨(a, b), rfl⟩
set_option maxRecDepth 100000 in
set_option maxHeartbeats 1000000 in
theorem eqIn_arr (w : World) (a b a' b' : Int) : (Op.equalIn 10000 65 (.agg #[.int .i64 a, .int .i64 b]) (.agg #[.int .i64 a', .int .i64 b'])).run Try.prog w = .ok (a == a' && b == b') w := by
  have u3 := Try.underlying3
  have a3 := Try.isAgg3
  have z3 := Try.sizeOf3
  rw [show (10000 : Nat) = 9999 + 1 from rfl, Op.equalIn]
  simp only [Sem.run_bind, run_underlying Try.underlying65, Result.andThen_ok]
  simp only [Std.Legacy.Range.forIn_eq_forIn_range', Std.Legacy.Range.size, Nat.sub_zero, Nat.add_sub_cancel, Nat.div_one, List.range'_succ, List.range'_zero, List.forIn_cons, List.forIn_nil]
  go_simp
  by_cases h1 : a = a' <;> by_cases h2 : b = b' <;> simp [h1, h2]
theorem arr_info : (Try.prog.info? 65).map (fun i => (i.zero, i.size, i.bytes)) = some (some (.agg #[.int .i64 0, .int .i64 0]), 2, 16) := by kernel_rfl
theorem arr_zero (w : World) : (zeroValue 65).run Try.prog w = .ok (.agg #[.int .i64 0, .int .i64 0]) w := by
  obtain ⟨i, hi, hz, _, _⟩ := info_parts arr_info
  simp [zeroValue, typeInfo, hi, hz]
set_option maxRecDepth 100000 in
set_option maxHeartbeats 8000000 in
theorem mapEqual_c (b1 b2 n1 n2 : Nat) (D1 D2 : DataW Unit) (w : World) (h1 : OwnM w b1 n1 D1) (h2 : OwnM w b2 n2 D2) (k1 : List Int) (f1 : Int → Int × Int) (hh : Holds D1 k1 f1) :
    Calls Try.prog 79 #[.map (some b1), .map (some b2)] w fun e w' => e = .returned (.bool (Lib.equalFuncD eqE D1 D2)) ∧ Below w.heap.size w w' := by
  have l1 := fun ty => World.ownsMap.len (t := 82) h1 Try.underlying82 ty
  have l2 := fun ty => World.ownsMap.len (t := 82) h2 Try.underlying82 ty
  have hb2 := World.ownsMap.lt h2
  obtain ⟨es1, rfl, hp, hn⟩ := hh
  have hap := Lib.hid (holds_apart hp hn)
  have hkeys : Hid (∀ p ∈ es1, WideAt.IsKeyLit p.1) := fun p hp' => by
    obtain ⟨t, _, rfl⟩ := List.mem_map.1 (hp.mem_iff.1 hp')
    exact key_ok t
  clear hp hn
  generalize hres : Lib.equalFuncD eqE (.map es1) D2 = res
  have RES := Lib.hid hres
  clear hres
  by_cases hsz : Maps.size (.map es1 : DataW Unit) = Maps.size D2
  · have HSZ := Lib.hid hsz
    have hsz1 : ((Maps.size (.map es1 : DataW Unit) : Int) != (Maps.size D2 : Int)) = false := by rw [hsz]; simp
    clear hsz
    go_enter Try.func79, Try.ntmps79
    go_wp2_with (first
      | (at_range; refine wpList_range_own _ rfl _ 82 rfl 3 65 intKey Try.underlying82 arrE b1 n1 _ rfl h1 ?_; intro w0 hrg0 hg0 hs0)
      | fail)
    go_frame
    have hb0 : Below w.heap.size w w0 := (Below.refl _ _).grown hg0 (Nat.le_refl _) (fun k e => by cases e)
    have h20 := OwnM.call h2 hb0
    have hgo := Lib.hid (good_start (eqd := eqE) hkeys.out D2)
    clear h1 h2 hg0 hs0 l1 l2 hsz1
    go_loopg [] (Maps.size (.map es1 : DataW Unit)) (fun gk wr => ∃ left : Lit → Bool, wr.ranges Try.prog 3 arrE b1 w.heap.size n1 (.map es1) left gk ∧ OwnM wr b2 n2 D2 ∧ Below w.heap.size w wr ∧ Hid (GoodAt eqE es1 D2 left))
    case atStart => exact ⟨_, hrg0, h20, hb0, hgo⟩
    case round =>
      obtain ⟨left, hrg, h2r, hb, G⟩ := hrel
      clear hrg0 h20 hb0 hgo
      go_wp2_with (first
        | (at_next; refine wpList_next_ranges _ rfl _ rfl 3 intKey arrE (fun x => Value.int .i64 x) (fun c : Int × Int => Value.agg #[.int .i64 c.1, .int .i64 c.2]) keyInv arrInv b1 w.heap.size n1 _ _ _ rfl hrg ?_ ?_)
        | fail)
      · intro _ hl0
        have HN : Hid (res = true) := by show _ = _; rw [← RES.out, all_good G.out hl0 HSZ.out]
        go_wp2_with (fail)
        go_ret
        exact ⟨ret_b HN.out, hb⟩
      · intro x ca cb kl yd yp w1 cnt1 hkey hlx hv hat hrg1 hlt hg1 hs1 hen
        have hb1 : Below w.heap.size w w1 := grown_bl hb hg1 (Nat.le_refl _)
        have h2w1 : OwnM w1 b2 n2 D2 := World.ownsMap.kept h2r hg1 (fun e => by have := Option.some.inj e; omega)
        have HAT : Hid (∀ zd, (DataW.map es1).atKey kl zd = yd) := hat
        obtain ⟨x', ex, rfl, hwx⟩ := Maps.keyOf_int_inv Try.underlying3 hkey
        cases ex
        obtain ⟨a', b', ec, hz⟩ := arrE_inv hv
        cases ec
        cases hz
        clear hat hlx hg1 hv
        have hbA : Below w.heap.size w (w1.alloc (.cells #[.int .i64 ca, .int .i64 cb] 65)) := bl_alloc hb1 _
        have hrgA := hrg1.alloc (.cells #[.int .i64 ca, .int .i64 cb] 65)
        have h2A : OwnM (w1.alloc (.cells #[.int .i64 ca, .int .i64 cb] 65)) b2 n2 D2 := World.ownsMap.alloc h2w1 _
        obtain ⟨v2, ps2, hlook, hv2⟩ := World.ownsMap.look_ok h2A intKey Try.underlying82 (arr_zero _) (arrE_mk 0 0) hkey
        obtain ⟨a2, b2', rfl, hz2⟩ := arrE_inv hv2
        injection hz2 with hz2 _
        have HZ2 := Lib.hid hz2
        clear hz2 hv2
        have hxA : Bx (w1.alloc (.cells #[.int .i64 ca, .int .i64 cb] 65)) w1.heap.size 65 #[.int .i64 ca, .int .i64 cb] := Bx.new _ _ _
        have hxB : Bx ((w1.alloc (.cells #[.int .i64 ca, .int .i64 cb] 65)).alloc (.cells #[.int .i64 a2, .int .i64 b2'] 65)) w1.heap.size 65 #[.int .i64 ca, .int .i64 cb] := hxA.alloc _
        have hyB : Bx ((w1.alloc (.cells #[.int .i64 ca, .int .i64 cb] 65)).alloc (.cells #[.int .i64 a2, .int .i64 b2'] 65)) (w1.heap.size + 1) 65 #[.int .i64 a2, .int .i64 b2'] := Bx.newAt (by rw [World.size_alloc])
        have hbB : Below w.heap.size w ((w1.alloc (.cells #[.int .i64 ca, .int .i64 cb] 65)).alloc (.cells #[.int .i64 a2, .int .i64 b2'] 65)) := bl_alloc hbA _
        have hrgB := hrgA.alloc (.cells #[.int .i64 a2, .int .i64 b2'] 65)
        have h2B : OwnM ((w1.alloc (.cells #[.int .i64 ca, .int .i64 cb] 65)).alloc (.cells #[.int .i64 a2, .int .i64 b2'] 65)) b2 n2 D2 := World.ownsMap.alloc h2A _
        rw [hs1] at hxB hyB
        obtain ⟨z0, z1, z2, z3⟩ := hxB.two
        obtain ⟨y0, y1, y2, y3⟩ := hyB.two
        clear hxA hxB hyB hbA hrgA h2A h2w1 hrg1 hb1 hrg h2r hb
        have heq := eqIn_arr
        rcases hh : Maps.has D2 (.int .i64 x) with _ | _
        · rw [hh] at hlook
          have HN : Hid (res = false) := by show _ = _; rw [← RES.out, bad_false hap.out hkeys.out HAT.out (by unfold Lib.goodD; rw [hh]; rfl)]
          go_wp2_with (fail)
          go_ret
          exact ⟨ret_b HN.out, hbB⟩
        · rw [hh] at hlook
          have hat2 : D2.atKey (.int .i64 x) .nil = encD (a2, b2') := (atKey_indep hh .nil (encD (0, 0))).trans HZ2.out
          have HE : Hid (Lib.goodD eqE D2 (.int .i64 x, encD (ca, cb)) = decide ((ca, cb) = (a2, b2'))) := by
            show _ = _
            unfold Lib.goodD
            rw [hh, hat2, eqE_enc, Bool.true_and]
          clear hat2
          by_cases e1 : ca = a2
          · by_cases e2 : cb = b2'
            · have e1' : (ca == a2) = true := by simpa using e1
              have e2' : (cb == b2') = true := by simpa using e2
              have HG := Lib.hid (good_step hap.out hkeys.out HAT.out G.out (HE.out.trans (by simp [e1, e2])))
              subst e1 e2
              go_wp2_with (fail)
              go_roundg cnt1
              case rel => exact ⟨_, hrgB, h2B, hbB, HG.out⟩
              case measure => exact hlt
            · have e2' : (cb == b2') = false := by simpa using e2
              subst e1
              have HN : Hid (res = false) := by show _ = _; rw [← RES.out, bad_false hap.out hkeys.out HAT.out (HE.out.trans (by simp [e2]))]
              go_wp2_with (fail)
              go_ret
              exact ⟨ret_b HN.out, hbB⟩
          · have e1' : (ca == a2) = false := by simpa using e1
            have HN : Hid (res = false) := by show _ = _; rw [← RES.out, bad_false hap.out hkeys.out HAT.out (HE.out.trans (by simp [e1]))]
            go_wp2_with (fail)
            go_ret
            exact ⟨ret_b HN.out, hbB⟩
  · have hsz1 : ((Maps.size (.map es1 : DataW Unit) : Int) != (Maps.size D2 : Int)) = true := by rw [bne_iff_ne]; omega
    have HN : Hid (res = false) := by show _ = _; rw [← RES.out, sizes_false hsz]
    go_enter Try.func79, Try.ntmps79
    go_wp2_with (fail)
    go_ret
    exact ⟨ret_b HN.out, Below.refl _ _⟩
end Go.Proofs.Ytbbhaongakmhpaa
