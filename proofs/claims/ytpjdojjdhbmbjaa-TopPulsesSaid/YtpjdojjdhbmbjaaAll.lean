/- Tables: rows of slices, each of them a row of its own. Mathematics of the list of all pulses. All pulses of a search, as the document lists them. -/
import Derived.Test.YtpjdojjdhbmbjaaOwn
import Derived.Test.YtpjdojjdhbmbjaaPul
import Derived.Test.YtpjdojjdhbmbjaaApp
import Derived.Test.YtpjdojjdhbmbjaaModes
namespace Go.Proofs.Ytpjdojjdhbmbjaa
open Go.RowKit

theorem slice_info : (Try.prog.info? 22).map (fun i => (i.zero, i.size, i.bytes)) = some (some (.slice none 0 0), 1, 24) := by kernel_rfl

section
variable {w w' : World} {base base' e e' size size' n n' : Nat} {v v' : Value} {xs xs' : List Value}
theorem own_base (h : w.ownsRow base e size v n xs) (hb : base' ≤ base) : w.ownsRow base' e size v n xs := by
  refine ⟨h.1, ?_⟩
  rcases h.2 with h | ⟨g, cap, cur, h1, h2, h3⟩
  · exact .inl h
  · exact .inr ⟨g, cap, cur, h1, by omega, h3⟩
/-- Rows of different types lie in different blocks. -/
theorem own_ne (h : w.ownsRow base e size v n xs) (h' : w.ownsRow base' e' size' v' n' xs') (hne : e ≠ e') : ∀ k, v.ownBlock = some k → v'.ownBlock ≠ some k := by
  intro k hk hk'
  rcases h.2 with ⟨rfl, _⟩ | ⟨g, cap, cur, rfl, _, hg, _⟩
  · cases hk
  · rcases h'.2 with ⟨rfl, _⟩ | ⟨g', cap', cur', rfl, _, hg', _⟩
    · cases hk'
    · cases hk; cases hk'
      have hg1 : w.heap[g]? = some (.cells cur e (0, 0)) := hg
      have hg2 : w.heap[g]? = some (.cells cur' e' (0, 0)) := hg'
      rw [hg1] at hg2
      injection hg2 with h1
      injection h1 with _ h2
      exact hne h2
theorem own_one (hb : base ≤ w.heap.size) : (w.alloc (.cells #[v] e)).ownsRow base e 1 (.slice (some ⟨w.heap.size, 0, none⟩) 1 1) 1 [v] :=
  ⟨rfl, .inr ⟨w.heap.size, 1, #[v], rfl, hb, World.alloc_heap_new w _, Nat.le_refl _, by unfold maxLen; omega, rfl, rfl⟩⟩
end

/-- hs are slices that read as the lists ls, each of them a row of its own from base on. -/
def Tab (w : World) (base : Nat) (hs : List Value) (ls : List (List Int)) : Prop :=
  hs.length = ls.length ∧ ∀ k, k < ls.length → ∃ A c, hs[k]? = some (.slice A (ls.getD k []).length c) ∧ w.ownsRow base 3 1 (.slice A (ls.getD k []).length c) (ls.getD k []).length (ints (ls.getD k []))
section
variable {w w' : World} {base base' : Nat} {hs : List Value} {ls : List (List Int)}
theorem Tab.nil (w : World) (base : Nat) : Tab w base [] [] := ⟨rfl, fun k h => by simp at h⟩
theorem Tab.lower (h : Tab w base hs ls) (hb : base' ≤ base) : Tab w base' hs ls :=
  ⟨h.1, fun k hk => by obtain ⟨A, c, h1, h2⟩ := h.2 k hk; exact ⟨A, c, h1, own_base h2 hb⟩⟩
theorem Tab.call (h : Tab w base hs ls) (hb : Below w.heap.size w w') : Tab w' base hs ls :=
  ⟨h.1, fun k hk => by obtain ⟨A, c, h1, h2⟩ := h.2 k hk; exact ⟨A, c, h1, own_call h2 hb⟩⟩
/-- A row of another type may be written. -/
theorem Tab.grown (h : Tab w base hs ls) {e b n : Nat} {v : Value} {xs : List Value} (ho : w.ownsRow b e 1 v n xs) (hne : 3 ≠ e) (hg : w.grownBy w' v.ownBlock) : Tab w' base hs ls :=
  ⟨h.1, fun k hk => by
    obtain ⟨A, c, h1, h2⟩ := h.2 k hk
    refine ⟨A, c, h1, h2.kept hg ?_⟩
    cases hA : (Value.slice A (ls.getD k []).length c).ownBlock with
    | none => exact .inl rfl
    | some j => exact .inr (fun e => own_ne h2 ho hne j hA e.symm)⟩
theorem Tab.snoc (h : Tab w base hs ls) {A : Option Addr} {l : List Int} {c : Nat} (ho : w.ownsRow base 3 1 (.slice A l.length c) l.length (ints l)) : Tab w base (hs ++ [.slice A l.length c]) (ls ++ [l]) := by
  refine ⟨by simp [h.1], fun k hk => ?_⟩
  rcases Nat.lt_or_ge k ls.length with hlt | hge
  · obtain ⟨A', c', h1, h2⟩ := h.2 k hlt
    have e : (ls ++ [l]).getD k [] = ls.getD k [] := by simp [hlt, List.getElem?_append_left hlt]
    rw [e]
    exact ⟨A', c', by rw [List.getElem?_append_left (by rw [h.1]; exact hlt)]; exact h1, h2⟩
  · have hk' : k = ls.length := by simp at hk; omega
    subst hk'
    have e : (ls ++ [l]).getD ls.length [] = l := by simp
    rw [e]
    exact ⟨A, c, by rw [List.getElem?_append_right (by rw [h.1]; exact Nat.le_refl _), h.1]; simp, ho⟩
end

theorem pAt_row (f i k j : Nat) (h : j < 2 * f + 1) : pAt f (i + 1) (k * (2 * f + 1) + j) = pAt f i k ++ [-(f : Int) + (j : Int)] := by
  have hb : 0 < 2 * f + 1 := by omega
  have e1 : (k * (2 * f + 1) + j) / (2 * f + 1) = k := by rw [Nat.add_comm, Nat.add_mul_div_right _ _ hb, Nat.div_eq_of_lt h, Nat.zero_add]
  have e2 : (k * (2 * f + 1) + j) % (2 * f + 1) = j := by rw [Nat.add_comm, Nat.add_mul_mod_self_right, Nat.mod_eq_of_lt h]
  rw [pAt, e1, e2]
theorem pow_le {f i : Nat} (hf : f ≤ 2) (hi : i < 6) : (2 * f + 1) ^ i ≤ 3125 := by
  have h : ∀ f : Fin 3, ∀ i : Fin 6, (2 * f.val + 1) ^ i.val ≤ 3125 := by decide +kernel
  exact h ⟨f, by omega⟩ ⟨i, hi⟩
theorem pulsesL_length (f n : Nat) : (pulsesL f n).length = (2 * f + 1) ^ n := by simp [pulsesL]
theorem pulsesTo_length (f n k : Nat) : (pulsesTo f n k).length = k := by simp [pulsesTo]
theorem pulsesL_get {f n k : Nat} (h : k < (2 * f + 1) ^ n) : (pulsesL f n).getD k [] = pAt f n k := by simp [pulsesL, h]
theorem pulsesTo_all (f i : Nat) : pulsesTo f (i + 1) ((2 * f + 1) ^ i * (2 * f + 1)) = pulsesL f (i + 1) := by rw [← Nat.pow_succ]; rfl
end Go.Proofs.Ytpjdojjdhbmbjaa
namespace Go.Proofs.Ytpjdojjdhbmbjaa
open Go.RowKit

theorem cell_new1 (w : World) (v : Value) (T : TypeId) : ∀ j u, [v][j]? = some u → (w.alloc (.cells #[v] T)).cell? ((⟨w.heap.size, 0, none⟩ : Addr).add j) = some u := by
  intro j u hj
  have hadd : (⟨w.heap.size, 0, none⟩ : Addr).add j = ⟨w.heap.size, j, none⟩ := by unfold Addr.add; split <;> simp_all
  rw [hadd]
  match j, hj with
  | 0, hj => simp at hj; subst hj; simp

set_option maxRecDepth 100000 in
set_option maxHeartbeats 4000000 in
theorem rall_c (n f : Nat) (hn : n ≤ 6) (hf : f ≤ 2) (w : World) :
    Calls Try.prog 84 #[.int .i64 n, .int .i64 f] w fun e w' => ∃ A c hs, e = .returned (.slice A (pulsesL f n).length c) ∧ w'.ownsRow w.heap.size 22 1 (.slice A (pulsesL f n).length c) (pulsesL f n).length hs ∧ Tab w' w.heap.size hs (pulsesL f n) ∧ Below w.heap.size w w' := by
  obtain ⟨i0, hi, hz0, hz1, hz2⟩ := info_parts int_info
  obtain ⟨i1, hj, hy0, hy1, hy2⟩ := info_parts slice_info
  have hone := own_one (e := 22) (v := .slice none 0 0) (Nat.le_refl w.heap.size)
  have htab : Tab (w.alloc (.cells #[.slice none 0 0] 22)) w.heap.size [.slice none 0 0] (pulsesL f 0) := ⟨rfl, fun k hk => by
    have hk0 : k = 0 := by simp [pulsesL] at hk; exact hk
    subst hk0
    exact ⟨none, 0, rfl, World.ownsRow_nil _ _ _ _⟩⟩
  go_enter Try.func84, Try.ntmps84
  go_wp2_with (fail)
  go_loopw [5, 6, 7, 8, 9] (fun ov iv _ _ _ wr => ∃ (i : Nat) (A : Option Addr) (c : Nat) (hs : List Value), i ≤ n ∧ iv = .int .i64 i ∧ ov = .slice A (pulsesL f i).length c ∧ wr.ownsRow w.heap.size 22 1 (.slice A (pulsesL f i).length c) (pulsesL f i).length hs ∧ Tab wr w.heap.size hs (pulsesL f i) ∧ Below w.heap.size w wr) (fun _ iv _ _ _ _ => n - (intOf iv).toNat)
  case atStart => exact ⟨0, _, _, _, Nat.zero_le _, rfl, rfl, hone, htab, bl_alloc (Below.refl _ _) _⟩
  case round =>
    obtain ⟨i, Ao, co, ho, hin, rfl, rfl, hown, htb, hb⟩ := hrel
    clear hone htab
    by_cases hlt : i < n
    · have hpow := pow_le hf (show i < 6 by omega)
      have hN := pulsesL_length f i
      obtain ⟨N, hNe⟩ : ∃ N, N = (2 * f + 1) ^ i := ⟨_, rfl⟩
      rw [← hNe] at hpow hN
      rw [hN] at hown
      have htb1 := htb
      have HP : Hid (∀ k, k < N → (pulsesL f i).getD k [] = pAt f i k) := fun k hk => pulsesL_get (by rw [← hNe]; exact hk)
      have HN : Hid (N = (2 * f + 1) ^ i) := hNe
      clear hNe
      have hwb := hb.size
      go_wp2_with (fail)
      rw [hN]
      obtain ⟨wo, rfl⟩ : ∃ wo : World, wo = wr := ⟨_, rfl⟩
      go_loopw [7, 8, 9] (fun nv kv _ wr => ∃ (k : Nat) (hs : List Value), k ≤ N ∧ kv = .int .i64 k ∧ wr.ownsRow wo.heap.size 22 1 nv (k * (2 * f + 1)) hs ∧ Tab wr wo.heap.size hs (pulsesTo f (i + 1) (k * (2 * f + 1))) ∧ Below wo.heap.size wo wr) (fun _ kv _ _ => N - (intOf kv).toNat)
      case atStart => exact ⟨0, [], Nat.zero_le _, rfl, by rw [Nat.zero_mul]; exact World.ownsRow_nil _ _ _ _, by rw [Nat.zero_mul]; exact Tab.nil _ _, Below.refl _ _⟩
      case round =>
        obtain ⟨k, hs, hkN, rfl, hown2, htb2, hb2⟩ := hrel
        by_cases hlt2 : k < N
        · have hq1 : (k + 1) * (2 * f + 1) ≤ 3125 * (2 * f + 1) := Nat.mul_le_mul_right _ (by omega)
          have hq2 : (k + 1) * (2 * f + 1) = k * (2 * f + 1) + (2 * f + 1) := by rw [Nat.add_mul, Nat.one_mul]
          obtain ⟨Q, hQ⟩ : ∃ Q, Q = k * (2 * f + 1) := ⟨_, rfl⟩
          rw [← hQ] at hown2 htb2 hq2
          rw [hq2] at hq1
          have HQ := Lib.hid hQ
          have HQ2 := Lib.hid hq2
          clear hQ hq2
          obtain ⟨Ak, ck, hk1, hk2⟩ := htb1.2 k (by rw [hN]; exact hlt2)
          rw [HP.out k hlt2] at hk1 hk2
          have hxl := pAt_len f i k
          have HX : Hid (∀ j, j < 2 * f + 1 → pAt f (i + 1) (Q + j) = pAt f i k ++ [-(f : Int) + (j : Int)]) := fun j hj => by rw [HQ.out]; exact pAt_row f i k j hj
          generalize pAt f i k = x at hk1 hk2 hxl HX
          have hx6 : x.length ≤ 6 := by omega
          clear hxl
          have hrk := (own_rd hk2).1
          have hro := (own_rd hown).1
          have hlen : ho.length = N := by have := hown.1; omega
          obtain ⟨b, o, rfl, hbl, hc⟩ := hro.at_ (k := k) (by rw [hlen]; exact hlt2)
          have hck := hc k _ hk1
          clear hk1 hk2 hc hlen
          go_wp2_with (fail)
          obtain ⟨wk, rfl⟩ : ∃ wk : World, wk = wr := ⟨_, rfl⟩
          go_loopw [7, 9] (fun nv fv wr => ∃ (j : Nat) (hs : List Value), j ≤ 2 * f + 1 ∧ fv = .int .i64 (-(f : Int) + (j : Int)) ∧ wr.ownsRow wo.heap.size 22 1 nv (Q + j) hs ∧ Tab wr wo.heap.size hs (pulsesTo f (i + 1) (Q + j)) ∧ Below wo.heap.size wo wr) (fun _ fv _ => ((f : Int) + 1 - intOf fv).toNat)
          case atStart => exact ⟨0, hs, Nat.zero_le _, by simp, hown2, htb2, hb2⟩
          case round =>
            obtain ⟨j, hs3, hj3, rfl, hown3, htb3, hb3⟩ := hrel
            clear hown2 htb2 hb2
            by_cases hlt3 : j < 2 * f + 1
            · have hjf : -(f : Int) + (j : Int) ≤ (f : Int) := by omega
              have hck3 := (hb3.cell (p := ⟨b, o + k, none⟩) hbl).trans hck
              have hrk3 : Rd wr Ak (ints x) := hrk.later hb3
              have HS := Lib.hid (pulsesTo_succ f (i + 1) (Q + j))
              have HXj := Lib.hid (HX.out j hlt3)
              have hwb3 := hb3.size
              have hbl3 : b < wr.heap.size := by omega
              generalize pulsesTo f (i + 1) (Q + j) = L at htb3 HS
              have ha0 : Below wr.heap.size wr (wr.alloc (.cells #[] 3)) := bl_alloc (Below.refl _ _) _
              go_wp2_with (at_builtin; refine wpList_append_any rfl _ _ 22 rfl wr.heap.size 3 i0 _ 8 Try.underlying22 hi hz0 hz1 hz2 rfl _ 0 [] rfl (World.ownsRow_made (e := 3) (size := 1) wr #[] 0 (Nat.le_refl _) (by decide) rfl) Ak x ck rfl (hrk3.later ha0) (by unfold maxLen; omega) (by omega) (by simp) ?_)
              intro A1 c1 w1 hown1 hg1
              have hb1 : Below wr.heap.size wr w1 := ha0.trans (grown_below (World.ownsRow_made (e := 3) (size := 1) wr #[] 0 (Nat.le_refl _) (by decide) rfl) hg1 (by simp))
              clear hg1 ha0 hck3 hrk3
              have hs1 := hb1.size
              go_wp2_with (at_builtin; refine wpList_append_own _ rfl _ _ 22 rfl wr.heap.size 3 i0 _ 1 8 Try.underlying22 hi hz0 hz1 hz2 rfl (by decide) _ _ _ rfl (hown1.alloc _) ⟨w1.heap.size, 0, none⟩ 1 1 [.int .i64 (-(f : Int) + (j : Int))] rfl rfl ?c1 ?c2 ?c3 ?c4 ?c5 ?_)
              case c1 => exact cell_new1 _ _ _
              case c2 => intro u hu; rw [List.mem_singleton.1 hu]; rfl
              case c3 => unfold maxLen; omega
              case c4 => omega
              case c5 => rw [World.size_alloc]; omega
              intro v2 w2 hown2 hg2 _
              have hb2 : Below wr.heap.size wr w2 := (bl_alloc hb1 _).trans (grown_below (hown1.alloc _) hg2 (by simp; omega))
              obtain ⟨A2, c2, rfl⟩ := own_form hown2
              have hs2 := hb2.size
              have hrow : Hid (w2.ownsRow wo.heap.size 3 1 (.slice A2 (x ++ [-(f : Int) + (j : Int)]).length c2) (x ++ [-(f : Int) + (j : Int)]).length (ints (x ++ [-(f : Int) + (j : Int)]))) := by
                show World.ownsRow _ _ _ _ _ _ _
                rw [ints_snoc, List.length_append]
                exact own_base hown2 hwb3
              have hl1 : Hid ((x ++ [-(f : Int) + (j : Int)]).length = x.length + 1) := by show _ = _; simp
              have htb4 := htb3.call hb2
              have hown4 := own_call hown3 hb2
              have hb4 := hb3.trans (hb2.mono hwb3)
              clear hown1 hown2 hg2 hb1
              go_wp2_with (at_builtin; refine wpList_append_own _ rfl _ _ 79 rfl wo.heap.size 22 i1 _ 1 24 Try.underlying79 hj hy0 hy1 hy2 rfl (by decide) _ _ _ rfl (hown4.alloc _) ⟨w2.heap.size, 0, none⟩ 1 1 [.slice A2 (x.length + 1) c2] rfl rfl ?d1 ?d2 ?d3 ?d4 ?d5 ?_)
              case d1 => exact cell_new1 _ _ _
              case d2 => intro u hu; rw [List.mem_singleton.1 hu]; rfl
              case d3 => unfold maxLen; omega
              case d4 => omega
              case d5 => rw [World.size_alloc]; omega
              intro v3 w3 hown5 hg3 _
              have htb6 : Hid (Tab w3 wo.heap.size (hs3 ++ [.slice A2 (x.length + 1) c2]) (pulsesTo f (i + 1) (Q + (j + 1)))) := by
                show Tab _ _ _ _
                rw [show Q + (j + 1) = Q + j + 1 by omega, HS.out, HXj.out, ← hl1.out]
                exact (Tab.call (Tab.snoc htb4 hrow.out) (bl_alloc (Below.refl _ _) _)).grown (hown4.alloc _) (by decide) hg3
              have hb6 : Below wo.heap.size wo w3 := (hb4.alloc (by omega) _).trans (grown_below (hown4.alloc _) hg3 (by rw [World.size_alloc]; omega))
              have hown6 : Hid (w3.ownsRow wo.heap.size 22 1 v3 (Q + (j + 1)) (hs3 ++ [.slice A2 (x.length + 1) c2])) := hown5
              clear hown5 hg3 htb4 hown4 hrow htb3 hown3
              go_wp2_with (fail)
              go_roundw
              case rel => exact ⟨j + 1, _, by omega, by push_cast; go_num, hown6.out, htb6.out, hb6⟩
              case measure => simp [intOf]; omega
            · obtain rfl : j = 2 * f + 1 := by omega
              have hnf : ¬ (-(f : Int) + ((2 * f + 1 : Nat) : Int) ≤ (f : Int)) := by omega
              go_wp2_with (fail)
              go_roundw
              case rel => exact ⟨k + 1, hs3, by omega, by go_num, by rw [HQ2.out]; exact hown3, by rw [HQ2.out]; exact htb3, hb3⟩
              case measure => simp [intOf]; omega
        · obtain rfl : k = N := by omega
          obtain ⟨A', c', rfl⟩ := own_form hown2
          have HA := Lib.hid (pulsesTo_all f i)
          have hb4 := hb.trans (hb2.mono hwb)
          have hlN : Hid ((pulsesL f (i + 1)).length = k * (2 * f + 1)) := by show _ = _; rw [pulsesL_length, Nat.pow_succ, HN.out]
          have htb5 : Hid (Tab wr w.heap.size hs (pulsesL f (i + 1))) := by
            show Tab _ _ _ _
            rw [HN.out, HA.out] at htb2
            exact htb2.lower hwb
          have hown5 : Hid (wr.ownsRow w.heap.size 22 1 (.slice A' (pulsesL f (i + 1)).length c') (pulsesL f (i + 1)).length hs) := by
            show World.ownsRow _ _ _ _ _ _ _
            rw [hlN.out]; exact own_base hown2 hwb
          clear hown2 htb2 htb htb1 hown
          go_wp2_with (fail)
          go_roundw
          case rel => exact ⟨i + 1, A', c', hs, by omega, by go_num, by rw [hlN.out], hown5.out, htb5.out, hb4⟩
          case measure => simp [intOf]; omega
    · obtain rfl : i = n := by omega
      go_wp2_with (fail)
      go_ret
      exact ⟨Ao, co, ho, rfl, hown, htb, hb⟩
end Go.Proofs.Ytpjdojjdhbmbjaa
