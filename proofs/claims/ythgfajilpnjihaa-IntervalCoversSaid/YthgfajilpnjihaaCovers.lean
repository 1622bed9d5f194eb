/-
  IntervalCovers (layer 39): the walk. Whatever the true number is, the interval contains it with at least the probability that is asked for, exactly counted. No condition on the arguments.
-/
import Derived.Test.YthgfajilpnjihaaCover
namespace Go.Proofs.Ythgfajilpnjihaa
open Go.RowKit

theorem enough_small (p s m al : Nat) (hp : p ≤ 14) (hs : s ≤ p) (hm : m ≤ p) (h0 : 1 ≤ al) (ha : al ≤ 999) :
    (0 : Int) < C p s ∧ (covered p s m al (s + 1) : Int) ≤ C p s ∧ (C p s : Int) ≤ 1152921504606846 ∧ (1000 - (al : Int)) * C p s ≤ 1000 * (covered p s m al (s + 1) : Int) := by
  have h1 := C_pos p s hs
  have h2 := covered_all p s m al (s + 1) hm (Nat.le_refl _)
  have h3 := enough p s m al hs hm ha
  have h4 : C p s ≤ 16384 := Nat.le_trans (C_le p s) (Nat.le_trans (Nat.pow_le_pow_right (by decide) hp) (by decide))
  refine ⟨by omega, by omega, by omega, ?_⟩
  have h5 : (((1000 - al) * C p s : Nat) : Int) ≤ ((1000 * covered p s m al (s + 1) : Nat) : Int) := Int.ofNat_le.2 h3
  simp only [Int.natCast_mul] at h5
  rw [show (((1000 - al : Nat)) : Int) = 1000 - (al : Int) by omega] at h5
  exact h5

set_option maxHeartbeats 2000000 in
set_option maxRecDepth 100000 in
theorem covers_any (n k m alpha : Int) (w : World) : Calls Try.prog 3 #[.int .i64 n, .int .i64 k, .int .i64 m, .int .i64 alpha] w fun e w' => e = .returned (.bool true) ∧ Below w.heap.size w w' := by
  go_enter Try.func3, Try.ntmps3
  go_wp2_with fail
  refine (mod_any _ _ _ (by omega) (by omega)).mono ?_
  rintro e w1 ⟨rfl, rfl⟩
  have b0 := Int.emod_nonneg n (show (14 : Int) ≠ 0 by omega)
  have b1 := Int.emod_lt_of_pos n (show (0 : Int) < 14 by omega)
  generalize n % 14 = q at b0 b1
  obtain ⟨q, rfl⟩ := Int.eq_ofNat_of_zero_le b0
  have hq1 : (1 + (q : Int)) = (q : Int) + 1 := by omega
  go_wp2_with fail
  refine (mod_any _ _ _ (by omega) (by omega)).mono ?_
  rintro e w1 ⟨rfl, rfl⟩
  have s0 := Int.emod_nonneg k (show ((q : Int) + 1 + 1) ≠ 0 by omega)
  have s1 := Int.emod_lt_of_pos k (show 0 < (q : Int) + 1 + 1 by omega)
  generalize k % ((q : Int) + 1 + 1) = s at s0 s1
  obtain ⟨s, rfl⟩ := Int.eq_ofNat_of_zero_le s0
  go_wp2_with fail
  refine (mod_any _ _ _ (by omega) (by omega)).mono ?_
  rintro e w1 ⟨rfl, rfl⟩
  have c0 := Int.emod_nonneg alpha (show (999 : Int) ≠ 0 by omega)
  have c1 := Int.emod_lt_of_pos alpha (show (0 : Int) < 999 by omega)
  generalize alpha % 999 = a at c0 c1
  obtain ⟨a, rfl⟩ := Int.eq_ofNat_of_zero_le c0
  have ha1 : (1 + (a : Int)) = (a : Int) + 1 := by omega
  go_wp2_with fail
  refine (mod_any _ _ _ (by omega) (by omega)).mono ?_
  rintro e w1 ⟨rfl, rfl⟩
  have y0 := Int.emod_nonneg m (show ((q : Int) + 1 + 1) ≠ 0 by omega)
  have y1 := Int.emod_lt_of_pos m (show 0 < (q : Int) + 1 + 1 by omega)
  generalize m % ((q : Int) + 1 + 1) = y at y0 y1
  obtain ⟨y, rfl⟩ := Int.eq_ofNat_of_zero_le y0
  go_wp2_with fail
  refine (cover_ok (q + 1) s y (a + 1) _ (by omega) (by omega) (by omega) (by omega) (by omega)).mono ?_
  rintro e w2 ⟨rfl, hb2⟩
  obtain ⟨e1, e2, e3, e4⟩ := enough_small (q + 1) s y (a + 1) (by omega) (by omega) (by omega) (by omega) (by omega)
  have e5 : (0 : Int) ≤ covered (q + 1) s y (a + 1) (s + 1) := by omega
  rw [show (1000 : Int) - ((a + 1 : Nat) : Int) = 1000 - ((a : Int) + 1) by omega] at e4
  generalize (covered (q + 1) s y (a + 1) (s + 1) : Int) = cc at e2 e4 e5
  generalize (C (q + 1) s : Int) = all at e1 e2 e3 e4
  have e6 : (1000 - ((a : Int) + 1)) * all ≤ 1152921504606846000 := Int.le_trans e4 (by omega)
  have e7 : 0 ≤ (1000 - ((a : Int) + 1)) * all := Int.mul_nonneg (by omega) (by omega)
  have e8 : IntKind.i64.wrap ((1000 - ((a : Int) + 1)) * all) = (1000 - ((a : Int) + 1)) * all := IntWalk.i64_in _ (by omega)
  have e9 : cc ≤ 1152921504606846 := by omega
  go_wp2_with fail
  refine (awake_any _).mono ?_
  rintro e w7 ⟨rfl, hb7⟩
  go_wp2
  go_ret
  exact ⟨rfl, hb2.trans (hb7.mono hb2.size)⟩
end Go.Proofs.Ythgfajilpnjihaa
