/- The document's meeting and IsShort. -/
import Derived.Test.YteoajadcdjaalaaRedM2
import Derived.Test.YteoajadcdjaalaaRpair
namespace Go.Proofs.Yteoajadcdjaalaa
open Go.RowKit

/-- The gate at i meets no later one. -/
def NoMeetAt (l : List G) (i : Nat) : Prop := ∀ k, i < k → k < l.length → keyG (l.getD i g0) = keyG (l.getD k g0) → ∃ j, i < j ∧ j < k ∧ tiedG (l.getD i g0) (l.getD j g0) = true
def MeetAt (l : List G) (i k : Nat) : Prop := i < k ∧ k < l.length ∧ keyG (l.getD i g0) = keyG (l.getD k g0) ∧ ∀ j, i < j → j < k → tiedG (l.getD i g0) (l.getD j g0) = false
def MeetIs (l : List G) (i k : Nat) (b : Bool) : Prop := (b = true ∧ MeetAt l i k) ∨ (b = false ∧ ∀ i', i' < l.length → NoMeetAt l i')

set_option maxRecDepth 100000 in
set_option maxHeartbeats 8000000 in
theorem meeting_c (A : Option Addr) (l : List G) (c : Nat) (w : World) (hlen : l.length ≤ 1000) (hg : Gs l) (hr : Rd w A (cellsG l)) :
    Calls Try.prog 74 #[.slice A l.length c] w fun e w' => ∃ i k b, e = .returned (.tuple #[.int .i64 (i : Nat), .int .i64 (k : Nat), .bool b]) ∧ MeetIs l i k b ∧ Below w.heap.size w w' := by
  go_enter Try.func74, Try.ntmps74
  go_wp2_with (fail)
  go_loopg [5] l.length (fun gk iv wr => ∃ i : Nat, Hid (i + gk = l.length) ∧ iv = .int .i64 (i : Int) ∧ Hid (∀ i', i' < i → NoMeetAt l i') ∧ Below w.heap.size w wr)
  case atStart => exact ⟨0, by simp [Hid], rfl, fun i' h => by omega, Below.refl _ _⟩
  case round =>
    obtain ⟨i, HI, rfl, Hall, hb⟩ := hrel
    rcases gk with _ | gi
    · obtain rfl : i = l.length := HI.out
      go_wp2_with (fail)
      go_ret3
      exact ⟨0, 0, false, rfl, .inr ⟨rfl, Hall.out⟩, hb⟩
    · have hi1 : i < l.length := by have h := HI.out; omega
      have hi1' : (i : Int) < (l.length : Int) := by omega
      have q8 : IntKind.i64.wrap ((i : Int) + 1) = (i : Int) + 1 := by simp [IntKind.wrap, IntKind.bits, IntKind.signed]; omega
      obtain ⟨wo, rfl⟩ : ∃ wo : World, wo = wr := ⟨_, rfl⟩
      go_wp2_with (fail)
      go_loopg [6] (l.length - (i + 1)) (fun gk kv wi => ∃ k : Nat, Hid (k + gk = l.length) ∧ i < k ∧ kv = .int .i64 (k : Int) ∧ Hid (∀ j, i < j → j < k → tiedG (l.getD i g0) (l.getD j g0) = false) ∧ Below w.heap.size w wi)
      case atStart => exact ⟨i + 1, by show _ = _; omega, by omega, by simp, fun j h1 h2 => by omega, hb⟩
      case round =>
        obtain ⟨k, HK, hik, rfl, Hu, hb3⟩ := hrel
        rcases gk with _ | gj
        · obtain rfl : k = l.length := HK.out
          have HB : Hid (∀ i', i' < i + 1 → NoMeetAt l i') := fun i' h => by
            rcases Nat.lt_or_ge i' i with hlt | hge
            · exact Hall.out i' hlt
            · obtain rfl : i' = i := by omega
              intro k h1 h2 h3
              have := Hu.out k h1 h2
              rw [tiedG_type h3] at this; cases this
          go_wp2_with (fail)
          go_roundg gi
          case rel => exact ⟨i + 1, by have h := HI.out; show _ = _; omega, by go_num, HB.out, hb3⟩
          case measure => omega
        · have hk1 : k < l.length := by have h := HK.out; omega
          have hk1' : (k : Int) < (l.length : Int) := by omega
          obtain ⟨b, o, rfl, hG1⟩ := gate_at hr hi1
          obtain ⟨b', o', he, hG2⟩ := gate_at hr hk1
          injection he with he
          injection he with e1 e2
          subst e1 e2
          have hgi := Lib.hid (hg.get hi1)
          have hgk := Lib.hid (hg.get hk1)
          have Hyes : Hid (keyG (l.getD i g0) = keyG (l.getD k g0) → MeetAt l i k) := fun h => ⟨hik, hk1, h, Hu.out⟩
          have Hun : Hid (typeG (l.getD i g0) (l.getD k g0) = false → commG (l.getD i g0) (l.getD k g0) = true → ∀ j, i < j → j < k + 1 → tiedG (l.getD i g0) (l.getD j g0) = false) := fun h1 h2 j hj hjk => by
            rcases Nat.lt_or_ge j k with hlt | hge
            · exact Hu.out j hj hlt
            · obtain rfl : j = k := by omega
              rw [tiedG, h1, h2]; rfl
          have Hbr : Hid (typeG (l.getD i g0) (l.getD k g0) = false → commG (l.getD i g0) (l.getD k g0) = false → ∀ i', i' < i + 1 → NoMeetAt l i') := fun h1 h2 i' h => by
            rcases Nat.lt_or_ge i' i with hlt | hge
            · exact Hall.out i' hlt
            · obtain rfl : i' = i := by omega
              intro k' h3 h4 h5
              rcases Nat.lt_trichotomy k' k with hlt | heq | hgt
              · have := Hu.out k' h3 hlt
                rw [tiedG_type h5] at this; cases this
              · subst heq
                rw [(typeG_iff _ _).2 h5] at h1; cases h1
              · exact ⟨k, hik, hgt, by rw [tiedG, h2]; simp⟩
          clear Hu Hall
          generalize l.getD i g0 = x at *
          generalize l.getD k g0 = y at *
          obtain ⟨xk, xa, xb, xt⟩ := x
          obtain ⟨yk, ya, yb, yt⟩ := y
          simp only [] at hG1 hG2
          have hcb : commG (xk, xa, xb, xt) (yk, ya, yb, yt) = rcommB xk xa xb yk ya yb := by rw [rcomm_eq hgi.out hgk.out]; rfl
          have hty : typeG (xk, xa, xb, xt) (yk, ya, yb, yt) = typeB xk xa xb yk ya yb := rfl
          rw [hcb, hty] at Hun Hbr
          have Hyes : Hid (typeB xk xa xb yk ya yb = true → MeetAt l i k) := fun h => Hyes.out ((typeG_iff _ _).1 (hty.trans h))
          have HTx := fun w => Lib.hid (rType_c xk xa xb xt w)
          have HTy := fun w => Lib.hid (rType_c yk ya yb yt w)
          have HC := fun w => Lib.hid (rCommutes_c xk xa xb xt yk ya yb yt w)
          have hCC : Below w.heap.size w wr.drew := hb3.drew
          clear hcb hty hgi hgk
          obtain ⟨cb, hcb⟩ : ∃ cb, cb = rcommB xk xa xb yk ya yb := ⟨_, rfl⟩
          rw [← hcb] at Hun Hbr HC
          clear hcb
          rcases type_cases xk xa xb yk ya yb with ⟨ht, hn⟩ | ⟨ht, rfl, hn⟩ | ⟨ht, rfl, rfl, hn⟩ | ⟨ht, rfl, rfl, rfl⟩
          · go_wp2_with (fail)
            refine wp_region_low (hCC) (by kernel_rfl) (by kernel_rfl) ?_
            repeat (first
              | go_big_quiet_skip
              | (go_big_quiet_want
                 apply Exists.intro
                 refine And.intro (fun W hW => ?_) ?_
                 · (obtain ⟨p0, p1, p2, p3⟩ := hG1.out W hW; obtain ⟨q0, q1, q2, q3⟩ := hG2.out W hW)
                   go_simp
                   first
                     | exact rfl
                     | (first | (refine (HTx W).out.mono ?_; rintro e w1 ⟨rfl, hb1⟩; exact ⟨rfl, bl_call hW hb1⟩) | (refine (HTy W).out.mono ?_; rintro e w1 ⟨rfl, hb1⟩; exact ⟨rfl, bl_call hW hb1⟩))
                 try go_simp
                 go_big_quiet_on))
            refine wpQuiet_nil ?_
            intro w9 hb9
            have hCC9 : Below w.heap.size w w9.drew := hb9.drew
            cases cb with
            | true =>
              have HU := Lib.hid (Hun.out ht rfl)
              clear Hun Hbr Hyes
              go_wp2_with (fail)
              refine wp_region_low (hCC9) (by kernel_rfl) (by kernel_rfl) ?_
              repeat (first
                | go_big_quiet_skip
                | (go_big_quiet_want
                   apply Exists.intro
                   refine And.intro (fun W hW => ?_) ?_
                   · (obtain ⟨p0, p1, p2, p3⟩ := hG1.out W hW; obtain ⟨q0, q1, q2, q3⟩ := hG2.out W hW)
                     go_simp
                     first
                       | exact rfl
                       | ((refine (HC W).out.mono ?_; rintro e w1 ⟨rfl, hb1⟩; exact ⟨rfl, bl_call hW hb1⟩))
                   try go_simp
                   go_big_quiet_on))
              refine wpQuiet_nil ?_
              intro w8 hb8
              go_wp2_with (fail)
              go_roundg gj
              case rel => exact ⟨k + 1, by have h := HK.out; show _ = _; omega, by omega, by go_num, HU.out, hb8⟩
              case measure => omega
            | false =>
              have HB := Lib.hid (Hbr.out ht rfl)
              clear Hun Hbr Hyes
              go_wp2_with (fail)
              refine wp_region_low (hCC9) (by kernel_rfl) (by kernel_rfl) ?_
              repeat (first
                | go_big_quiet_skip
                | (go_big_quiet_want
                   apply Exists.intro
                   refine And.intro (fun W hW => ?_) ?_
                   · (obtain ⟨p0, p1, p2, p3⟩ := hG1.out W hW; obtain ⟨q0, q1, q2, q3⟩ := hG2.out W hW)
                     go_simp
                     first
                       | exact rfl
                       | ((refine (HC W).out.mono ?_; rintro e w1 ⟨rfl, hb1⟩; exact ⟨rfl, bl_call hW hb1⟩))
                   try go_simp
                   go_big_quiet_on))
              refine wpQuiet_nil ?_
              intro w8 hb8
              go_wp2_with (fail)
              go_roundg gi
              case rel => exact ⟨i + 1, by have h := HI.out; show _ = _; omega, by go_num, HB.out, hb8⟩
              case measure => omega
          · go_wp2_with (fail)
            refine wp_region_low (hCC) (by kernel_rfl) (by kernel_rfl) ?_
            repeat (first
              | go_big_quiet_skip
              | (go_big_quiet_want
                 apply Exists.intro
                 refine And.intro (fun W hW => ?_) ?_
                 · (obtain ⟨p0, p1, p2, p3⟩ := hG1.out W hW; obtain ⟨q0, q1, q2, q3⟩ := hG2.out W hW)
                   go_simp
                   first
                     | exact rfl
                     | (first | (refine (HTx W).out.mono ?_; rintro e w1 ⟨rfl, hb1⟩; exact ⟨rfl, bl_call hW hb1⟩) | (refine (HTy W).out.mono ?_; rintro e w1 ⟨rfl, hb1⟩; exact ⟨rfl, bl_call hW hb1⟩))
                 try go_simp
                 go_big_quiet_on))
            refine wpQuiet_nil ?_
            intro w9 hb9
            have hCC9 : Below w.heap.size w w9.drew := hb9.drew
            cases cb with
            | true =>
              have HU := Lib.hid (Hun.out ht rfl)
              clear Hun Hbr Hyes
              go_wp2_with (fail)
              refine wp_region_low (hCC9) (by kernel_rfl) (by kernel_rfl) ?_
              repeat (first
                | go_big_quiet_skip
                | (go_big_quiet_want
                   apply Exists.intro
                   refine And.intro (fun W hW => ?_) ?_
                   · (obtain ⟨p0, p1, p2, p3⟩ := hG1.out W hW; obtain ⟨q0, q1, q2, q3⟩ := hG2.out W hW)
                     go_simp
                     first
                       | exact rfl
                       | ((refine (HC W).out.mono ?_; rintro e w1 ⟨rfl, hb1⟩; exact ⟨rfl, bl_call hW hb1⟩))
                   try go_simp
                   go_big_quiet_on))
              refine wpQuiet_nil ?_
              intro w8 hb8
              go_wp2_with (fail)
              go_roundg gj
              case rel => exact ⟨k + 1, by have h := HK.out; show _ = _; omega, by omega, by go_num, HU.out, hb8⟩
              case measure => omega
            | false =>
              have HB := Lib.hid (Hbr.out ht rfl)
              clear Hun Hbr Hyes
              go_wp2_with (fail)
              refine wp_region_low (hCC9) (by kernel_rfl) (by kernel_rfl) ?_
              repeat (first
                | go_big_quiet_skip
                | (go_big_quiet_want
                   apply Exists.intro
                   refine And.intro (fun W hW => ?_) ?_
                   · (obtain ⟨p0, p1, p2, p3⟩ := hG1.out W hW; obtain ⟨q0, q1, q2, q3⟩ := hG2.out W hW)
                     go_simp
                     first
                       | exact rfl
                       | ((refine (HC W).out.mono ?_; rintro e w1 ⟨rfl, hb1⟩; exact ⟨rfl, bl_call hW hb1⟩))
                   try go_simp
                   go_big_quiet_on))
              refine wpQuiet_nil ?_
              intro w8 hb8
              go_wp2_with (fail)
              go_roundg gi
              case rel => exact ⟨i + 1, by have h := HI.out; show _ = _; omega, by go_num, HB.out, hb8⟩
              case measure => omega
          · go_wp2_with (fail)
            refine wp_region_low (hCC) (by kernel_rfl) (by kernel_rfl) ?_
            repeat (first
              | go_big_quiet_skip
              | (go_big_quiet_want
                 apply Exists.intro
                 refine And.intro (fun W hW => ?_) ?_
                 · (obtain ⟨p0, p1, p2, p3⟩ := hG1.out W hW; obtain ⟨q0, q1, q2, q3⟩ := hG2.out W hW)
                   go_simp
                   first
                     | exact rfl
                     | (first | (refine (HTx W).out.mono ?_; rintro e w1 ⟨rfl, hb1⟩; exact ⟨rfl, bl_call hW hb1⟩) | (refine (HTy W).out.mono ?_; rintro e w1 ⟨rfl, hb1⟩; exact ⟨rfl, bl_call hW hb1⟩))
                 try go_simp
                 go_big_quiet_on))
            refine wpQuiet_nil ?_
            intro w9 hb9
            have hCC9 : Below w.heap.size w w9.drew := hb9.drew
            cases cb with
            | true =>
              have HU := Lib.hid (Hun.out ht rfl)
              clear Hun Hbr Hyes
              go_wp2_with (fail)
              refine wp_region_low (hCC9) (by kernel_rfl) (by kernel_rfl) ?_
              repeat (first
                | go_big_quiet_skip
                | (go_big_quiet_want
                   apply Exists.intro
                   refine And.intro (fun W hW => ?_) ?_
                   · (obtain ⟨p0, p1, p2, p3⟩ := hG1.out W hW; obtain ⟨q0, q1, q2, q3⟩ := hG2.out W hW)
                     go_simp
                     first
                       | exact rfl
                       | ((refine (HC W).out.mono ?_; rintro e w1 ⟨rfl, hb1⟩; exact ⟨rfl, bl_call hW hb1⟩))
                   try go_simp
                   go_big_quiet_on))
              refine wpQuiet_nil ?_
              intro w8 hb8
              go_wp2_with (fail)
              go_roundg gj
              case rel => exact ⟨k + 1, by have h := HK.out; show _ = _; omega, by omega, by go_num, HU.out, hb8⟩
              case measure => omega
            | false =>
              have HB := Lib.hid (Hbr.out ht rfl)
              clear Hun Hbr Hyes
              go_wp2_with (fail)
              refine wp_region_low (hCC9) (by kernel_rfl) (by kernel_rfl) ?_
              repeat (first
                | go_big_quiet_skip
                | (go_big_quiet_want
                   apply Exists.intro
                   refine And.intro (fun W hW => ?_) ?_
                   · (obtain ⟨p0, p1, p2, p3⟩ := hG1.out W hW; obtain ⟨q0, q1, q2, q3⟩ := hG2.out W hW)
                     go_simp
                     first
                       | exact rfl
                       | ((refine (HC W).out.mono ?_; rintro e w1 ⟨rfl, hb1⟩; exact ⟨rfl, bl_call hW hb1⟩))
                   try go_simp
                   go_big_quiet_on))
              refine wpQuiet_nil ?_
              intro w8 hb8
              go_wp2_with (fail)
              go_roundg gi
              case rel => exact ⟨i + 1, by have h := HI.out; show _ = _; omega, by go_num, HB.out, hb8⟩
              case measure => omega
          · go_wp2_with (fail)
            refine wp_region_low (hCC) (by kernel_rfl) (by kernel_rfl) ?_
            repeat (first
              | go_big_quiet_skip
              | (go_big_quiet_want
                 apply Exists.intro
                 refine And.intro (fun W hW => ?_) ?_
                 · (obtain ⟨p0, p1, p2, p3⟩ := hG1.out W hW; obtain ⟨q0, q1, q2, q3⟩ := hG2.out W hW)
                   go_simp
                   first
                     | exact rfl
                     | (first | (refine (HTx W).out.mono ?_; rintro e w1 ⟨rfl, hb1⟩; exact ⟨rfl, bl_call hW hb1⟩) | (refine (HTy W).out.mono ?_; rintro e w1 ⟨rfl, hb1⟩; exact ⟨rfl, bl_call hW hb1⟩))
                 try go_simp
                 go_big_quiet_on))
            refine wpQuiet_nil ?_
            intro w9 hb9
            have HY := Lib.hid (Hyes.out ht)
            clear Hun Hbr Hyes
            go_wp2_with (fail)
            go_ret3
            exact ⟨i, k, true, rfl, .inl ⟨rfl, HY.out⟩, hb9⟩
end Go.Proofs.Yteoajadcdjaalaa
