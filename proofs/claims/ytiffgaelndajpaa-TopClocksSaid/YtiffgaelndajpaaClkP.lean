/- Jobs in time: all stretches, the first crowded one, slack and speed. Lists and numbers alone. -/
import Derived.Test.YtiffgaelndajpaaClkN
namespace Go.Proofs.Ytiffgaelndajpaa

/-- The stretches from a on, the first m of them; those of the times before a; those before a stretch; all. -/
def rowTo (a m : Nat) : List (Int × Int) := (List.range m).map fun (d : Nat) => ((a : Int), (a : Int) + 1 + (d : Int))
def strTo : Nat → List (Int × Int)
  | 0 => []
  | a + 1 => strTo a ++ rowTo a (60 - a)
def preS (a m : Nat) : List (Int × Int) := strTo a ++ rowTo a m
def strL : List (Int × Int) := strTo 60
theorem rowTo_succ (a m : Nat) : rowTo a (m + 1) = rowTo a m ++ [((a : Int), (a : Int) + 1 + m)] := by simp [rowTo, List.range_succ]
theorem preS_succ (a m : Nat) : preS a (m + 1) = preS a m ++ [((a : Int), (a : Int) + 1 + m)] := by rw [preS, preS, rowTo_succ, List.append_assoc]
theorem preS_zero (a : Nat) : preS a 0 = strTo a := by simp [preS, rowTo]
theorem preS_next (a : Nat) : preS a (60 - a) = preS (a + 1) 0 := by rw [preS_zero]; rfl
theorem strTo_pre (a : Nat) : ∀ n, a ≤ n → ∃ t, strTo n = strTo a ++ t
  | 0, h => ⟨[], by obtain rfl : a = 0 := by omega
                    simp⟩
  | n + 1, h => by
    rcases Nat.lt_or_ge n a with x | x
    · obtain rfl : a = n + 1 := by omega
      exact ⟨[], by simp⟩
    · obtain ⟨t, ht⟩ := strTo_pre a n x
      exact ⟨t ++ rowTo n (60 - n), by rw [strTo, ht, List.append_assoc]⟩
theorem rowTo_pre (a m : Nat) : ∀ n, m ≤ n → ∃ t, rowTo a n = rowTo a m ++ t
  | 0, h => ⟨[], by obtain rfl : m = 0 := by omega
                    simp⟩
  | n + 1, h => by
    rcases Nat.lt_or_ge n m with x | x
    · obtain rfl : m = n + 1 := by omega
      exact ⟨[], by simp⟩
    · obtain ⟨t, ht⟩ := rowTo_pre a m n x
      exact ⟨_, by rw [rowTo_succ, ht, List.append_assoc]⟩
/-- What comes before a stretch begins the list of all. -/
theorem preS_of (a m : Nat) (ha : a < 60) (hm : m ≤ 60 - a) : ∃ t, strL = preS a m ++ t := by
  obtain ⟨t1, h1⟩ := strTo_pre (a + 1) 60 (by omega)
  obtain ⟨t2, h2⟩ := rowTo_pre a m (60 - a) hm
  exact ⟨t2 ++ t1, by rw [strL, h1, strTo, h2, preS]; simp⟩
theorem preS_pre (a m : Nat) (ha : a < 60) (hm : m < 60 - a) : ∃ t, strL = preS a m ++ ((a : Int), (a : Int) + 1 + m) :: t := by
  obtain ⟨t, h⟩ := preS_of a (m + 1) ha (by omega)
  exact ⟨t, by rw [h, preS_succ]; simp⟩
theorem preS_end : preS 60 0 = strL := preS_zero 60
theorem mem_rowTo {a m : Nat} {s : Int × Int} : s ∈ rowTo a m ↔ s.1 = a ∧ (a : Int) < s.2 ∧ s.2 ≤ (a : Int) + m := by
  obtain ⟨x, y⟩ := s
  simp only [rowTo, List.mem_map, List.mem_range, Prod.mk.injEq]
  constructor
  · rintro ⟨d, h1, rfl, rfl⟩; exact ⟨rfl, by omega, by omega⟩
  · rintro ⟨rfl, h2, h3⟩; exact ⟨(y - a - 1).toNat, by omega, rfl, by omega⟩
theorem mem_strTo {s : Int × Int} : ∀ {n : Nat}, n ≤ 60 → (s ∈ strTo n ↔ 0 ≤ s.1 ∧ s.1 < n ∧ s.1 < s.2 ∧ s.2 ≤ 60)
  | 0, _ => by simp [strTo]; omega
  | n + 1, h => by
    rw [strTo, List.mem_append, mem_strTo (n := n) (by omega), mem_rowTo]
    omega
theorem mem_strL {s : Int × Int} : s ∈ strL ↔ 0 ≤ s.1 ∧ s.1 < s.2 ∧ s.2 ≤ 60 := by rw [strL, mem_strTo (Nat.le_refl _)]; omega

/- The first crowded stretch. -/
def crwB (l : List T3) (s : Int × Int) : Bool := decide (s.2 - s.1 < dem l s.1 s.2)
def crowdF (l : List T3) : Option (Int × Int) := strL.find? (crwB l)
theorem crowdF_found {l : List T3} {pre t : List (Int × Int)} {s : Int × Int} (h : strL = pre ++ s :: t) (hp : ∀ x ∈ pre, crwB l x = false) (hs : crwB l s = true) : crowdF l = some s := by
  rw [crowdF, List.find?_eq_some_iff_append]
  exact ⟨hs, pre, t, h, fun x hx => by simp [hp x hx]⟩
theorem crowdF_none {l : List T3} (h : ∀ x ∈ strL, crwB l x = false) : crowdF l = none := by
  rw [crowdF, List.find?_eq_none]; intro x hx; simp [h x hx]
theorem crowdF_some {l : List T3} {s : Int × Int} (h : crowdF l = some s) : (0 ≤ s.1 ∧ s.1 < s.2 ∧ s.2 ≤ 60) ∧ s.2 - s.1 < dem l s.1 s.2 := by
  have h1 := List.mem_of_find?_eq_some h
  have h2 := List.find?_some h
  exact ⟨mem_strL.1 h1, by simpa [crwB] using h2⟩
theorem crowdF_iff {l : List T3} : crowdF l = none ↔ ∀ a b : Int, 0 ≤ a → a < b → b ≤ 60 → dem l a b ≤ b - a := by
  rw [crowdF, List.find?_eq_none]
  constructor
  · intro h a b h0 h1 h2
    have := h (a, b) (mem_strL.2 ⟨h0, h1, h2⟩)
    simp [crwB] at this; exact this
  · rintro h ⟨a, b⟩ hx
    obtain ⟨h0, h1, h2⟩ := mem_strL.1 hx
    have := h a b h0 h1 h2
    simp [crwB]; exact this
/-- Of any stretches at all, or of those from 0 to 60. -/
theorem dem_all {l : List T3} (hl : Ok l) {M : Int} : (∀ a b : Int, 0 < dem l a b → dem l a b - (b - a) ≤ M) ↔ ∀ a b : Int, 0 ≤ a → a < b → b ≤ 60 → 0 < dem l a b → dem l a b - (b - a) ≤ M := by
  constructor
  · intro h a b _ _ _ hd; exact h a b hd
  · intro h a b hd
    have e := dem_tight hl a b
    obtain ⟨k, hk, h1, h2⟩ := dem_some hd
    have h3 := (hl.jobs.get hk).f0
    have h4 := (hl.jobs.get hk).fb
    have h5 := (hl.jobs.get hk).b1
    have := h (max a 0) (min b 60) (by omega) (by omega) (by omega) (by rw [e]; exact hd)
    omega
def canB (l : List T3) : Bool := decide (lateL l ≤ 0)
theorem dem_empty {l : List T3} (h : l.length = 0) (a b : Int) : dem l a b = 0 := by rw [List.length_eq_zero_iff.1 h]; rfl
theorem can_crowd {l : List T3} (hl : Ok l) : lateL l ≤ 0 ↔ crowdF l = none := by
  rw [crowdF_iff]
  by_cases hn : 0 < l.length
  · rw [lateL_iff hl hn, dem_all hl]
    constructor
    · intro h a b h0 h1 h2
      by_cases hd : 0 < dem l a b
      · have := h a b h0 h1 h2 hd; omega
      · omega
    · intro h a b h0 h1 h2 _
      have := h a b h0 h1 h2; omega
  · rw [lateL, if_pos (by omega)]
    exact ⟨fun _ a b h0 h1 h2 => by rw [dem_empty (by omega)]; omega, fun _ => Int.le_refl _⟩

/- Slack. -/
def slStep (l : List T3) (m : Int) (s : Int × Int) : Int := if 0 < dem l s.1 s.2 then min m (s.2 - s.1 - dem l s.1 s.2) else m
def slackS (l : List T3) (ss : List (Int × Int)) : Int := ss.foldl (slStep l) 60
theorem slackS_snoc (l : List T3) (ss : List (Int × Int)) (s : Int × Int) : slackS l (ss ++ [s]) = slStep l (slackS l ss) s := by simp [slackS]
theorem slackS_ge (l : List T3) (M : Int) : ∀ (ss : List (Int × Int)) (m : Int), M ≤ ss.foldl (slStep l) m ↔ M ≤ m ∧ ∀ s ∈ ss, 0 < dem l s.1 s.2 → M ≤ s.2 - s.1 - dem l s.1 s.2
  | [], m => by simp
  | s :: ss, m => by
    rw [List.foldl_cons, slackS_ge l M ss]
    unfold slStep
    simp only [List.mem_cons, forall_eq_or_imp]
    split
    · rename_i h
      rw [Int.le_min]
      exact ⟨fun ⟨⟨a, b⟩, c⟩ => ⟨a, fun _ => b, c⟩, fun ⟨a, b, c⟩ => ⟨⟨a, b h⟩, c⟩⟩
    · rename_i h
      exact ⟨fun ⟨a, c⟩ => ⟨a, fun x => absurd x h, c⟩, fun ⟨a, _, c⟩ => ⟨a, c⟩⟩
def slackL (l : List T3) : Int := if l.length = 0 then 0 else slackS l strL
theorem slackS_range {l : List T3} (hl : Ok l) (ss : List (Int × Int)) (h : ∀ s ∈ ss, 0 ≤ s.1 ∧ s.1 < s.2 ∧ s.2 ≤ 60) : -480 ≤ slackS l ss ∧ slackS l ss ≤ 60 := by
  constructor
  · rw [slackS, slackS_ge]
    refine ⟨by omega, fun s hs _ => ?_⟩
    have := h s hs
    have := (dem_range hl s.1 s.2).2
    omega
  · have h1 := (slackS_ge l (slackS l ss) ss 60).1 (by unfold slackS; exact Int.le_refl _)
    exact h1.1
/-- The lateness is the slack below 0. -/
theorem late_slack {l : List T3} (hl : Ok l) : lateL l = - slackL l := by
  by_cases hn : 0 < l.length
  · have key : ∀ M : Int, lateL l ≤ M ↔ -M ≤ slackL l := by
      intro M
      rw [lateL_iff hl hn, dem_all hl, slackL, if_neg (by omega), slackS, slackS_ge]
      constructor
      · intro h
        refine ⟨?_, fun s hs hd => ?_⟩
        · have h0 := (hl.jobs.get hn).f0
          have h1 := (hl.jobs.get hn).fb
          have h2 := (hl.jobs.get hn).b1
          have h3 := dem_of hl hn (Int.le_refl _) (Int.le_refl _)
          have := h _ _ h0 h1 h2 h3
          omega
        · obtain ⟨h0, h1, h2⟩ := mem_strL.1 hs
          have := h s.1 s.2 h0 h1 h2 hd
          omega
      · rintro ⟨_, h⟩ a b h0 h1 h2 hd
        have := h (a, b) (mem_strL.2 ⟨h0, h1, h2⟩) hd
        simp only [] at this
        omega
    have h1 := (key (lateL l)).1 (Int.le_refl _)
    have h2 := (key (- slackL l)).2 (by omega)
    omega
  · rw [lateL, slackL, if_pos (by omega), if_pos (by omega)]; rfl

/- Speed. -/
def ratio (n d : Int) : Int × Int := (n / (Int.gcd n d : Int), d / (Int.gcd n d : Int))
def spStep (l : List T3) (x : Int × Int) (s : Int × Int) : Int × Int := if x.1 * (s.2 - s.1) < dem l s.1 s.2 * x.2 then ratio (dem l s.1 s.2) (s.2 - s.1) else x
def speedS (l : List T3) (ss : List (Int × Int)) : Int × Int := ss.foldl (spStep l) (0, 1)
theorem speedS_snoc (l : List T3) (ss : List (Int × Int)) (s : Int × Int) : speedS l (ss ++ [s]) = spStep l (speedS l ss) s := by simp [speedS]
def speedL (l : List T3) : Int × Int := speedS l strL
/-- The greatest demand for each unit, in lowest terms. -/
structure IsSpeed (l : List T3) (ss : List (Int × Int)) (x : Int × Int) : Prop where
  n0 : 0 ≤ x.1
  d0 : 0 < x.2
  n1 : x.1 ≤ 480
  d1 : x.2 ≤ 60
  low : Int.gcd x.1 x.2 = 1
  all : ∀ s ∈ ss, dem l s.1 s.2 * x.2 ≤ x.1 * (s.2 - s.1)
  one : x = (0, 1) ∨ ∃ s ∈ ss, dem l s.1 s.2 * x.2 = x.1 * (s.2 - s.1)
theorem ratio_is {n d : Int} (hn : 0 < n) (hd : 0 < d) : 0 < (ratio n d).1 ∧ (ratio n d).1 ≤ n ∧ 0 < (ratio n d).2 ∧ (ratio n d).2 ≤ d ∧ Int.gcd (ratio n d).1 (ratio n d).2 = 1 ∧ n * (ratio n d).2 = (ratio n d).1 * d := by
  have hg : 0 < Int.gcd n d := Int.gcd_pos_of_ne_zero_left _ (by omega)
  have hgg : (0 : Int) < (Int.gcd n d : Int) := by omega
  have e1 : (ratio n d).1 * (Int.gcd n d : Int) = n := Int.ediv_mul_cancel (Int.gcd_dvd_left n d)
  have e2 : (ratio n d).2 * (Int.gcd n d : Int) = d := Int.ediv_mul_cancel (Int.gcd_dvd_right n d)
  have e3 : Int.gcd (ratio n d).1 (ratio n d).2 = 1 := by
    exact Int.gcd_ediv_gcd_ediv_gcd hg
  generalize (ratio n d).1 = x at *
  generalize (ratio n d).2 = y at *
  generalize (Int.gcd n d : Int) = g at *
  have hx : 0 < x := by
    rcases Int.lt_or_le 0 x with h | h
    · exact h
    · have := Int.mul_nonneg (show 0 ≤ -x by omega) (show 0 ≤ g by omega)
      rw [Int.neg_mul] at this; omega
  have hy : 0 < y := by
    rcases Int.lt_or_le 0 y with h | h
    · exact h
    · have := Int.mul_nonneg (show 0 ≤ -y by omega) (show 0 ≤ g by omega)
      rw [Int.neg_mul] at this; omega
  have hxn : x ≤ n := by
    have := Int.mul_le_mul_of_nonneg_left (show 1 ≤ g by omega) (show 0 ≤ x by omega)
    omega
  have hyd : y ≤ d := by
    have := Int.mul_le_mul_of_nonneg_left (show 1 ≤ g by omega) (show 0 ≤ y by omega)
    omega
  refine ⟨hx, hxn, hy, hyd, e3, ?_⟩
  rw [← e1, ← e2, Int.mul_assoc, Int.mul_comm g y]
/-- Of three fractions. -/
theorem frac_trans {a b c d e f : Int} (hb : 0 ≤ b) (hd : 0 < d) (hf : 0 ≤ f) (h1 : a * d ≤ c * b) (h2 : c * f ≤ e * d) : a * f ≤ e * b := by
  refine Int.le_of_mul_le_mul_right (a := d) ?_ hd
  have e1 : a * f * d = a * d * f := by rw [Int.mul_assoc, Int.mul_comm f d, ← Int.mul_assoc]
  have e2 : e * b * d = e * d * b := by rw [Int.mul_assoc, Int.mul_comm b d, ← Int.mul_assoc]
  have e3 : c * b * f = c * f * b := by rw [Int.mul_assoc, Int.mul_comm b f, ← Int.mul_assoc]
  rw [e1, e2]
  exact Int.le_trans (Int.mul_le_mul_of_nonneg_right h1 hf) (by rw [e3]; exact Int.mul_le_mul_of_nonneg_right h2 hb)
theorem IsSpeed.next {l : List T3} (hl : Ok l) {ss : List (Int × Int)} {x s : Int × Int} (hs : 0 ≤ s.1 ∧ s.1 < s.2 ∧ s.2 ≤ 60) (hss : ∀ s ∈ ss, 0 ≤ s.1 ∧ s.1 < s.2 ∧ s.2 ≤ 60) (h : IsSpeed l ss x) : IsSpeed l (ss ++ [s]) (spStep l x s) := by
  have hr := dem_range hl s.1 s.2
  unfold spStep
  by_cases hc : x.1 * (s.2 - s.1) < dem l s.1 s.2 * x.2
  · rw [if_pos hc]
    have hn0 := h.n0
    have hd0 := h.d0
    have hlen : 0 < s.2 - s.1 := by omega
    have hdem : 0 < dem l s.1 s.2 := by
      rcases Int.lt_or_le 0 (dem l s.1 s.2) with q | q
      · exact q
      · have h1 := Int.mul_nonneg hn0 (show 0 ≤ s.2 - s.1 by omega)
        have h2 : dem l s.1 s.2 = 0 := by omega
        rw [h2, Int.zero_mul] at hc; omega
    obtain ⟨r1, r2, r3, r4, r5, r6⟩ := ratio_is hdem hlen
    refine ⟨by omega, r3, by omega, by omega, r5, fun y hy => ?_, .inr ⟨s, by simp, r6⟩⟩
    rcases List.mem_append.1 hy with hy | hy
    · have h1 := hss y hy
      refine frac_trans (c := x.1) (d := x.2) (by omega) hd0 (by omega) (h.all y hy) ?_
      refine frac_trans (c := dem l s.1 s.2) (d := s.2 - s.1) (by omega) hlen (by omega) (by omega) (by omega)
    · rw [List.mem_singleton.1 hy]; omega
  · rw [if_neg hc]
    refine ⟨h.n0, h.d0, h.n1, h.d1, h.low, fun y hy => ?_, ?_⟩
    · rcases List.mem_append.1 hy with hy | hy
      · exact h.all y hy
      · rw [List.mem_singleton.1 hy]; omega
    · rcases h.one with h1 | ⟨y, hy, h1⟩
      · exact .inl h1
      · exact .inr ⟨y, by simp [hy], h1⟩
theorem speedS_is {l : List T3} (hl : Ok l) : ∀ (ss pre : List (Int × Int)) (x : Int × Int), (∀ s ∈ pre ++ ss, 0 ≤ s.1 ∧ s.1 < s.2 ∧ s.2 ≤ 60) → IsSpeed l pre x → IsSpeed l (pre ++ ss) (ss.foldl (spStep l) x)
  | [], pre, x, _, h => by simpa using h
  | s :: ss, pre, x, hv, h => by
    have := speedS_is hl ss (pre ++ [s]) (spStep l x s) (by simpa using hv) (h.next hl (hv s (by simp)) fun y hy => hv y (by simp [hy]))
    simpa using this
theorem speed_is {l : List T3} (hl : Ok l) {ss : List (Int × Int)} (h : ∀ s ∈ ss, 0 ≤ s.1 ∧ s.1 < s.2 ∧ s.2 ≤ 60) : IsSpeed l ss (speedS l ss) :=
  speedS_is hl ss [] (0, 1) (by simpa using h) ⟨by simp, by simp, by simp, by simp, by decide, by simp, .inl rfl⟩
theorem speedL_is {l : List T3} (hl : Ok l) : IsSpeed l strL (speedL l) := speed_is hl fun _ hs => mem_strL.1 hs
theorem IsSpeed.le {l : List T3} {x y : Int × Int} (hx : IsSpeed l strL x) (hy : IsSpeed l strL y) : x.1 * y.2 ≤ y.1 * x.2 := by
  have h1 := hx.d0
  have h2 := hy.d0
  rcases hx.one with rfl | ⟨s, hs, he⟩
  · have := hy.n0
    simp; exact this
  · obtain ⟨s0, s1, s2⟩ := mem_strL.1 hs
    exact frac_trans (c := dem l s.1 s.2) (d := s.2 - s.1) (by omega) (by omega) (by omega) (by omega) (hy.all s hs)
theorem dvd_coprime {k m n : Int} (h : Int.gcd m k = 1) (hd : k ∣ m * n) : k ∣ n := by
  have h1 : Nat.Coprime k.natAbs m.natAbs := by rw [Nat.Coprime, Nat.gcd_comm]; exact h
  have h2 : k.natAbs ∣ m.natAbs * n.natAbs := by rw [← Int.natAbs_mul]; exact Int.natAbs_dvd_natAbs.2 hd
  exact Int.natAbs_dvd_natAbs.1 (h1.dvd_of_dvd_mul_left h2)
/-- There is but one. -/
theorem IsSpeed.uniq {l : List T3} {x y : Int × Int} (hx : IsSpeed l strL x) (hy : IsSpeed l strL y) : x = y := by
  have e := Int.le_antisymm (hx.le hy) (hy.le hx)
  have x0 := hx.d0
  have y0 := hy.d0
  have d1 : x.2 ∣ y.2 := dvd_coprime hx.low ⟨y.1, by rw [e, Int.mul_comm]⟩
  have d2 : y.2 ∣ x.2 := dvd_coprime hy.low ⟨x.1, by rw [← e, Int.mul_comm]⟩
  have e2 : x.2 = y.2 := Int.le_antisymm (Int.le_of_dvd y0 d1) (Int.le_of_dvd x0 d2)
  rw [e2] at e
  exact Prod.ext (Int.eq_of_mul_eq_mul_right (by omega) e) e2
/-- More than 1 for each unit: crowded. -/
theorem speed_crowd {l : List T3} (hl : Ok l) : (speedL l).2 < (speedL l).1 ↔ crowdF l ≠ none := by
  have h := speedL_is hl
  have d0 := h.d0
  constructor
  · intro hlt hc
    have hall := crowdF_iff.1 hc
    rcases h.one with e | ⟨s, hs, he⟩
    · rw [e] at hlt; simp at hlt
    · obtain ⟨s0, s1, s2⟩ := mem_strL.1 hs
      have h1 := hall s.1 s.2 s0 s1 s2
      have h2 := Int.mul_le_mul_of_nonneg_right h1 (Int.le_of_lt d0)
      have h3 := Int.mul_lt_mul_of_pos_right hlt (show 0 < s.2 - s.1 by omega)
      rw [Int.mul_comm (s.2 - s.1)] at h2
      omega
  · intro hc
    rcases Int.lt_or_le (speedL l).2 (speedL l).1 with q | q
    · exact q
    · exfalso
      refine hc (crowdF_iff.2 fun a b h0 h1 h2 => ?_)
      have h3 := h.all (a, b) (mem_strL.2 ⟨h0, h1, h2⟩)
      have h4 := Int.mul_le_mul_of_nonneg_right q (show 0 ≤ b - a by omega)
      simp only [] at h3
      refine Int.le_of_mul_le_mul_right (a := (speedL l).2) ?_ d0
      rw [Int.mul_comm (b - a)]
      omega
theorem late_crowd {l : List T3} (hl : Ok l) : 0 ≤ slackL l ↔ crowdF l = none := by
  rw [← can_crowd hl, late_slack hl]; omega
end Go.Proofs.Ytiffgaelndajpaa
