/-
  Layer 39: the sets that are covered are enough, counted exactly.
-/
import Derived.Test.YthgfajilpnjihaaBoundsOf
namespace Go.Proofs.Ythgfajilpnjihaa

/-- What is counted for k marked packets that were drawn: the sets with k of them, if the bounds contain m. -/
def Cov (p s m al k : Nat) : Prop := ∃ lo hi, Bnd p s k al lo hi ∧ lo ≤ m ∧ m ≤ hi
open Classical in
noncomputable def cov (p s m al k : Nat) : Nat := if Cov p s m al k then term m (p - m) s k else 0
noncomputable def covered (p s m al n : Nat) : Nat := sumTo (cov p s m al) n

theorem bnd_one {p s k al lo hi lo' hi' : Nat} (h1 : Bnd p s k al lo hi) (h2 : Bnd p s k al lo' hi') : lo = lo' ∧ hi = hi' := by
  obtain ⟨a1, a2, a3, a4, a5, a6, a7⟩ := h1
  obtain ⟨b1, b2, b3, b4, b5, b6, b7⟩ := h2
  refine ⟨?_, ?_⟩
  · rcases Nat.lt_or_ge lo' lo with h | h
    · exact absurd b4 (a6 lo' b1 h)
    · rcases Nat.lt_or_ge lo lo' with h' | h'
      · exact absurd a4 (b6 lo a1 h')
      · omega
  · rcases Nat.lt_or_ge hi hi' with h | h
    · exact absurd b5 (a7 hi' h b3)
    · rcases Nat.lt_or_ge hi' hi with h' | h'
      · exact absurd a5 (b7 hi h' a3)
      · omega
theorem cov_yes {p s m al k lo hi : Nat} (h : Bnd p s k al lo hi) (h1 : lo ≤ m) (h2 : m ≤ hi) : cov p s m al k = term m (p - m) s k := by
  unfold cov; rw [if_pos ⟨lo, hi, h, h1, h2⟩]
theorem cov_no {p s m al k lo hi : Nat} (h : Bnd p s k al lo hi) (h1 : ¬ (lo ≤ m ∧ m ≤ hi)) : cov p s m al k = 0 := by
  unfold cov
  rw [if_neg]
  rintro ⟨lo', hi', h', h3, h4⟩
  obtain ⟨rfl, rfl⟩ := bnd_one h h'
  exact h1 ⟨h3, h4⟩
theorem term_out {p s m k : Nat} (h : m < k ∨ p - m < s - k) : term m (p - m) s k = 0 := by
  show C m k * C (p - m) (s - k) = 0
  rcases h with h | h
  · rw [C_big m k h, Nat.zero_mul]
  · rw [C_big _ _ h, Nat.mul_zero]
theorem cov_out {p s m al k : Nat} (h : m < k ∨ p - m < s - k) : cov p s m al k = 0 := by
  unfold cov
  split
  · exact term_out h
  · rfl
theorem cov_le (p s m al k : Nat) : cov p s m al k ≤ term m (p - m) s k := by
  unfold cov
  split
  · exact Nat.le_refl _
  · exact Nat.zero_le _
theorem covered_le (p s m al : Nat) : ∀ n, covered p s m al n ≤ low p s m n
  | 0 => Nat.le_refl _
  | n + 1 => by
    have := covered_le p s m al n
    have := cov_le p s m al n
    show covered p s m al n + cov p s m al n ≤ low p s m n + term m (p - m) s n
    omega
theorem covered_all (p s m al n : Nat) (hm : m ≤ p) (hn : n ≤ s + 1) : covered p s m al n ≤ C p s :=
  Nat.le_trans (covered_le p s m al n) (low_le p s m n hm hn)

/-- Everything plausible lies within the bounds. -/
theorem cov_pl {p s m al k : Nat} (h1 : k ≤ m) (h2 : m ≤ p - (s - k)) (h : Pl p s k al m) (hb : ∃ lo hi, Bnd p s k al lo hi) : cov p s m al k = term m (p - m) s k := by
  obtain ⟨lo, hi, hb⟩ := hb
  have hb' := hb
  obtain ⟨a1, a2, a3, a4, a5, a6, a7⟩ := hb
  refine cov_yes hb' ?_ ?_
  · rcases Nat.lt_or_ge m lo with h' | h'
    · exact absurd h (a6 m h1 h')
    · exact h'
  · rcases Nat.lt_or_ge hi m with h' | h'
    · exact absurd h (a7 m h' h2)
    · exact h'

/-- There are bounds. -/
theorem some_bnd (p s k al : Nat) (hs : s ≤ p) (hk : k ≤ s) (ha : al ≤ 999) : ∃ lo hi, Bnd p s k al lo hi := by
  obtain ⟨m0, i1, i2, i3⟩ := some_pl p s k al hk hs ha
  obtain ⟨lo, b1, b2, b3, b4⟩ := least (Pl p s k al) (m0 - k) k (by rw [show k + (m0 - k) = m0 by omega]; exact i3)
  obtain ⟨d, c1, c2, c3, c4⟩ := least (fun d => Pl p s k al (p - (s - k) - d)) (p - (s - k) - m0) 0 (by
    show Pl p s k al (p - (s - k) - (0 + (p - (s - k) - m0)))
    rw [show p - (s - k) - (0 + (p - (s - k) - m0)) = m0 by omega]; exact i3)
  refine ⟨lo, p - (s - k) - d, b1, by omega, by omega, b3, c3, b4, fun j h1 h2 => ?_⟩
  have := c4 (p - (s - k) - j) (by omega) (by omega)
  rwa [show p - (s - k) - (p - (s - k) - j) = j by omega] at this

/-- What is too far below, and what is too far above. -/
def tooLow (p s m al k : Nat) : Nat := if 2000 * low p s m (k + 1) ≤ al * C p s then term m (p - m) s k else 0
def tooHigh (p s m al k : Nat) : Nat := if 2000 * (C p s - low p s m k) ≤ al * C p s then term m (p - m) s k else 0

theorem low_succ (p s m n : Nat) : low p s m (n + 1) = low p s m n + term m (p - m) s n := rfl

theorem sum_tooLow_le (p s m al : Nat) : ∀ n, sumTo (tooLow p s m al) n ≤ low p s m n
  | 0 => Nat.le_refl _
  | n + 1 => by
    have := sum_tooLow_le p s m al n
    have h : tooLow p s m al n ≤ term m (p - m) s n := by unfold tooLow; split <;> omega
    show sumTo (tooLow p s m al) n + tooLow p s m al n ≤ low p s m n + term m (p - m) s n
    omega
theorem sum_tooLow (p s m al : Nat) : ∀ n, 2000 * sumTo (tooLow p s m al) n ≤ al * C p s
  | 0 => Nat.zero_le _
  | n + 1 => by
    by_cases h : 2000 * low p s m (n + 1) ≤ al * C p s
    · have := sum_tooLow_le p s m al (n + 1)
      omega
    · have h1 := sum_tooLow p s m al n
      have h2 : tooLow p s m al n = 0 := by unfold tooLow; rw [if_neg h]
      show 2000 * (sumTo (tooLow p s m al) n + tooLow p s m al n) ≤ _
      omega
theorem sum_tooHigh (p s m al : Nat) : ∀ n, sumTo (tooHigh p s m al) n = 0 ∨ ∃ k, k ≤ n ∧ 2000 * (C p s - low p s m k) ≤ al * C p s ∧ sumTo (tooHigh p s m al) n + low p s m k ≤ low p s m n
  | 0 => .inl rfl
  | n + 1 => by
    have e : sumTo (tooHigh p s m al) (n + 1) = sumTo (tooHigh p s m al) n + tooHigh p s m al n := rfl
    have hle : tooHigh p s m al n ≤ term m (p - m) s n := by unfold tooHigh; split <;> omega
    have hs := low_succ p s m n
    rcases sum_tooHigh p s m al n with h | ⟨k, h1, h2, h3⟩
    · by_cases h' : 2000 * (C p s - low p s m n) ≤ al * C p s
      · exact .inr ⟨n, by omega, h', by omega⟩
      · have h2 : tooHigh p s m al n = 0 := by unfold tooHigh; rw [if_neg h']
        exact .inl (by omega)
    · exact .inr ⟨k, by omega, h2, by omega⟩

theorem three (p s m al : Nat) (hs : s ≤ p) (hm : m ≤ p) (ha : al ≤ 999) : ∀ n, n ≤ s + 1 → low p s m n ≤ covered p s m al n + sumTo (tooLow p s m al) n + sumTo (tooHigh p s m al) n
  | 0, _ => Nat.zero_le _
  | n + 1, hn => by
    have h := three p s m al hs hm ha n (by omega)
    have hstep : term m (p - m) s n ≤ cov p s m al n + tooLow p s m al n + tooHigh p s m al n := by
      by_cases h1 : 2000 * low p s m (n + 1) ≤ al * C p s
      · have : tooLow p s m al n = term m (p - m) s n := by unfold tooLow; rw [if_pos h1]
        omega
      · by_cases h2 : 2000 * (C p s - low p s m n) ≤ al * C p s
        · have : tooHigh p s m al n = term m (p - m) s n := by unfold tooHigh; rw [if_pos h2]
          omega
        · by_cases h3 : m < n ∨ p - m < s - n
          · rw [term_out h3]; exact Nat.zero_le _
          · rw [cov_pl (by omega) (by omega) ⟨by omega, by omega⟩ (some_bnd p s n al hs (by omega) ha)]
            omega
    show low p s m n + term m (p - m) s n ≤ (covered p s m al n + cov p s m al n) + (sumTo (tooLow p s m al) n + tooLow p s m al n) + (sumTo (tooHigh p s m al) n + tooHigh p s m al n)
    omega

theorem enough (p s m al : Nat) (hs : s ≤ p) (hm : m ≤ p) (ha : al ≤ 999) : (1000 - al) * C p s ≤ 1000 * covered p s m al (s + 1) := by
  have h1 := three p s m al hs hm ha (s + 1) (Nat.le_refl _)
  have h2 := sum_tooLow p s m al (s + 1)
  have h3 : 2000 * sumTo (tooHigh p s m al) (s + 1) ≤ al * C p s := by
    rcases sum_tooHigh p s m al (s + 1) with h | ⟨k, a1, a2, a3⟩
    · omega
    · rw [low_all p s m hm] at a3
      omega
  rw [low_all p s m hm] at h1
  rw [Nat.sub_mul]
  omega
end Go.Proofs.Ythgfajilpnjihaa
