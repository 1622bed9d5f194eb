/-
  Layer 39: the tails of the numbers of sets, as plain mathematics: how they turn with the number of marked things, and that some number is plausible.
-/
import Derived.Test.YthgfajilpnjihaaCount
namespace Go.Proofs.Ythgfajilpnjihaa

/-- How many sets of s out of p, m of them marked, have fewer than k of the marked ones. -/
def low (p s m k : Nat) : Nat := sumTo (term m (p - m) s) k

theorem C_pos : ∀ (n k : Nat), k ≤ n → 0 < C n k
  | n, 0, _ => by rw [C_zero]; decide
  | n + 1, k + 1, h => by
    rw [C_succ]
    have := C_pos n k (by omega)
    omega

theorem rec_plain (m r s k : Nat) (h : k ≤ s) : sumTo (term m (r + 1) s) k = sumTo (term m r s) k + sumTo (term m r (s - 1)) k := by
  rw [← sumTo_add]
  refine sumTo_congr k fun i hi => ?_
  show C m i * C (r + 1) (s - i) = C m i * C r (s - i) + C m i * C r (s - 1 - i)
  obtain ⟨d, hd⟩ : ∃ d, s - i = d + 1 := ⟨s - i - 1, by omega⟩
  rw [hd, show s - 1 - i = d by omega, C_succ, Nat.mul_add]
  omega
theorem rec_mark (m r s k : Nat) : sumTo (term (m + 1) r s) (k + 1) = sumTo (term m r s) (k + 1) + sumTo (term m r (s - 1)) k := by
  rw [sumTo_head, sumTo_head]
  have e1 : term (m + 1) r s 0 = term m r s 0 := by
    show C (m + 1) 0 * _ = C m 0 * _
    rw [C_zero, C_zero]
  have e2 : sumTo (fun i => term (m + 1) r s (i + 1)) k = sumTo (fun i => term m r s (i + 1) + term m r (s - 1) i) k := by
    refine sumTo_congr k fun i _ => ?_
    show C (m + 1) (i + 1) * C r (s - (i + 1)) = C m (i + 1) * C r (s - (i + 1)) + C m i * C r (s - 1 - i)
    rw [C_succ, show s - 1 - i = s - (i + 1) by omega, Nat.add_mul]
    omega
  rw [e1, e2, sumTo_add]
  have e3 : sumTo (fun i => term m r (s - 1) i) k = sumTo (term m r (s - 1)) k := rfl
  rw [e3]; omega

theorem low_all (p s m : Nat) (hm : m ≤ p) : low p s m (s + 1) = C p s := by
  unfold low
  rw [vander, show m + (p - m) = p by omega]
theorem low_le (p s m k : Nat) (hm : m ≤ p) (hk : k ≤ s + 1) : low p s m k ≤ C p s := by
  have := part_le m (p - m) s k hk
  rwa [show m + (p - m) = p by omega] at this
theorem low_mono (p s m k : Nat) : low p s m k ≤ low p s m (k + 1) := sumTo_mono _ k 1
/-- One more marked thing: fewer sets have fewer than k. -/
theorem low_step (p s m k : Nat) (hm : m < p) (hk : k ≤ s + 1) : low p s (m + 1) k ≤ low p s m k := by
  rcases Nat.lt_or_ge s k with h | h
  · obtain rfl : k = s + 1 := by omega
    rw [low_all _ _ _ (by omega), low_all _ _ _ (by omega)]
    exact Nat.le_refl _
  · cases k with
    | zero => exact Nat.le_refl _
    | succ k =>
      unfold low
      obtain ⟨r, hr⟩ : ∃ r, p - m = r + 1 := ⟨p - m - 1, by omega⟩
      rw [hr, show p - (m + 1) = r by omega, rec_mark, rec_plain m r s (k + 1) h]
      have := sumTo_mono (term m r (s - 1)) k 1
      omega
theorem low_steps (p s m k : Nat) (hk : k ≤ s + 1) : ∀ d, m + d ≤ p → low p s (m + d) k ≤ low p s m k
  | 0, _ => Nat.le_refl _
  | d + 1, h => Nat.le_trans (low_step p s (m + d) k (by omega) hk) (low_steps p s m k hk d (by omega))
theorem low_down (p s m m' k : Nat) (hk : k ≤ s + 1) (h : m ≤ m') (h' : m' ≤ p) : low p s m' k ≤ low p s m k := by
  have := low_steps p s m k hk (m' - m) (by omega)
  rwa [show m + (m' - m) = m' by omega] at this
/-- One more marked thing raises what is drawn of them by one at most. -/
theorem low_shift (p s m k : Nat) (hm : m < p) (hk : k ≤ s) : low p s m k ≤ low p s (m + 1) (k + 1) := by
  unfold low
  obtain ⟨r, hr⟩ : ∃ r, p - m = r + 1 := ⟨p - m - 1, by omega⟩
  rw [hr, show p - (m + 1) = r by omega, rec_mark, rec_plain m r s k hk]
  have := sumTo_mono (term m r s) k 1
  omega
theorem low_top (p s k : Nat) (hk : k ≤ s) (hs : s ≤ p) : low p s (p - (s - k)) k = 0 := by
  unfold low
  have h := sumTo_zeros (term (p - (s - k)) (p - (p - (s - k))) s) 0 k (fun i _ hi => by
    show C (p - (s - k)) i * C (p - (p - (s - k))) (s - i) = 0
    rw [C_big (p - (p - (s - k))) (s - i) (by omega), Nat.mul_zero])
  rw [Nat.zero_add] at h
  exact h
theorem low_self (p s k : Nat) (hk : k ≤ s) (hs : s ≤ p) : low p s k (k + 1) = C p s := by
  unfold low
  rw [vander_min k (p - k) s k (by omega) hk, show k + (p - k) = p by omega]

/-- A number of marked things that is plausible. -/
def Pl (p s k al m : Nat) : Prop := al * C p s < 2000 * (C p s - low p s m k) ∧ al * C p s < 2000 * low p s m (k + 1)
instance (p s k al m : Nat) : Decidable (Pl p s k al m) := by unfold Pl; exact inferInstance

/-- The least one of numbers from a to a + d with a property, if the last one has it. -/
theorem least (P : Nat → Prop) [DecidablePred P] : ∀ (d a : Nat), P (a + d) → ∃ m, a ≤ m ∧ m ≤ a + d ∧ P m ∧ ∀ j, a ≤ j → j < m → ¬ P j
  | 0, a, h => ⟨a, Nat.le_refl _, Nat.le_refl _, h, fun j h1 h2 => by omega⟩
  | d + 1, a, h => by
    by_cases ha : P a
    · exact ⟨a, Nat.le_refl _, by omega, ha, fun j h1 h2 => by omega⟩
    · obtain ⟨m, h1, h2, h3, h4⟩ := least P d (a + 1) (by rw [show a + 1 + d = a + (d + 1) by omega]; exact h)
      refine ⟨m, by omega, by omega, h3, fun j h5 h6 => ?_⟩
      rcases Nat.lt_or_ge a j with h7 | h7
      · exact h4 j h7 h6
      · obtain rfl : j = a := by omega
        exact ha

theorem some_pl (p s k al : Nat) (hk : k ≤ s) (hs : s ≤ p) (ha : al ≤ 999) : ∃ m, k ≤ m ∧ m ≤ p - (s - k) ∧ Pl p s k al m := by
  have hC := C_pos p s hs
  have hal : al * C p s ≤ 999 * C p s := Nat.mul_le_mul_right _ ha
  obtain ⟨m, h1, h2, h3, h4⟩ := least (fun m => al * C p s < 2000 * (C p s - low p s m k)) (p - (s - k) - k) k (by
    show al * C p s < 2000 * (C p s - low p s (k + (p - (s - k) - k)) k)
    rw [show k + (p - (s - k) - k) = p - (s - k) by omega, low_top p s k hk hs]
    omega)
  refine ⟨m, h1, by omega, h3, ?_⟩
  rcases Nat.lt_or_ge k m with h | h
  · have h5 := h4 (m - 1) (by omega) (by omega)
    have h6 := low_shift p s (m - 1) k (by omega) hk
    rw [show m - 1 + 1 = m by omega] at h6
    have h7 := low_le p s (m - 1) k (by omega) (by omega)
    omega
  · obtain rfl : m = k := by omega
    rw [low_self p s m hk hs]
    omega

/-! ### The program's counts in these words -/
theorem many_least (p s m k : Nat) (hk : k ≤ s) (hm : m ≤ p) : many p s m k s = (C p s : Int) - low p s m k := by
  unfold many span
  rw [show max (k : Int) 0 = k by omega, show min (min (s : Int) s) m = ((min s m : Nat) : Int) by omega, Int.toNat_natCast]
  have h : sumTo (term m (p - m) s) (max (k : Int) (((min s m : Nat) : Int) + 1)).toNat = C p s := by
    rcases Nat.lt_or_ge (min s m) k with h1 | h1
    · have e : (max (k : Int) (((min s m : Nat) : Int) + 1)).toNat = (k - 1) + 1 := by omega
      rw [e, vander_min m (p - m) s (k - 1) (by omega) (by omega), show m + (p - m) = p by omega]
    · have e : (max (k : Int) (((min s m : Nat) : Int) + 1)).toNat = min s m + 1 := by omega
      rw [e, vander_min m (p - m) s (min s m) (by omega) (by omega), show m + (p - m) = p by omega]
  rw [h]; rfl
theorem many_most (p s m k : Nat) (hk : k ≤ s) : many p s m 0 k = (low p s m (k + 1) : Int) := by
  unfold many span
  have h0 : (max (0 : Int) 0).toNat = 0 := by decide
  rw [h0, show min (min (k : Int) s) m = ((min k m : Nat) : Int) by omega]
  rw [show (max (max (0 : Int) 0) (((min k m : Nat) : Int) + 1)).toNat = min k m + 1 by omega]
  have h : sumTo (term m (p - m) s) (min k m + 1) = low p s m (k + 1) := by
    unfold low
    rcases Nat.lt_or_ge m k with h1 | h1
    · rw [show min k m = m by omega]
      have := sumTo_zeros (term m (p - m) s) (m + 1) (k - m) (fun i h2 h3 => by
        show C m i * _ = 0
        rw [C_big m i (by omega)]; omega)
      rw [show m + 1 + (k - m) = k + 1 by omega] at this
      exact this.symm
    · rw [show min k m = k by omega]
  rw [h]
  show (_ : Int) - ((0 : Nat) : Int) = _
  omega
end Go.Proofs.Ythgfajilpnjihaa
