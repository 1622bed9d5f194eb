/-
  IntervalGrows (layer 39): the walk. The bounds contain what is possible alone, do not shrink when more marked packets were drawn, and lie further apart if more certainty is asked for; with the whole pool drawn both are the number itself. No condition on the arguments.
-/
import Derived.Test.YthpibcnlgocjhabBoundsOf
namespace Go.Proofs.Ythpibcnlgocjhab
open Go.RowKit

theorem pl_al {p s k al be m : Nat} (h : al ≤ be) (hp : Pl p s k be m) : Pl p s k al m := by
  have h1 : al * C p s ≤ be * C p s := Nat.mul_le_mul_right _ h
  exact ⟨by have := hp.1; omega, by have := hp.2; omega⟩
theorem bnd_al {p s k al be lo hi lo' hi' : Nat} (h : al ≤ be) (h1 : Bnd p s k al lo hi) (h2 : Bnd p s k be lo' hi') : lo ≤ lo' ∧ hi' ≤ hi := by
  obtain ⟨a1, a2, a3, a4, a5, a6, a7⟩ := h1
  obtain ⟨b1, b2, b3, b4, b5, b6, b7⟩ := h2
  refine ⟨?_, ?_⟩
  · rcases Nat.lt_or_ge lo' lo with h | h'
    · exact absurd (pl_al ‹_› b4) (a6 lo' b1 h)
    · exact h'
  · rcases Nat.lt_or_ge hi hi' with h | h'
    · exact absurd (pl_al ‹_› b5) (a7 hi' h b3)
    · exact h'
theorem bnd_k {p s k al lo hi lo' hi' : Nat} (hk : k + 1 ≤ s) (h1 : Bnd p s k al lo hi) (h2 : Bnd p s (k + 1) al lo' hi') : lo ≤ lo' ∧ hi ≤ hi' := by
  obtain ⟨a1, a2, a3, a4, a5, a6, a7⟩ := h1
  obtain ⟨b1, b2, b3, b4, b5, b6, b7⟩ := h2
  refine ⟨?_, ?_⟩
  · rcases Nat.lt_or_ge lo' lo with h | h'
    · have h3 := a6 lo' (by omega) h
      have h4 := b4.1
      have h5 := low_mono p s lo' k
      have h6 := low_down p s lo' lo (k + 1) (by omega) (by omega) (by omega)
      have h7 := a4.2
      exact absurd ⟨by omega, by omega⟩ h3
    · exact h'
  · rcases Nat.lt_or_ge hi' hi with h | h'
    · have h3 := b7 hi h (by omega)
      have h4 := a5.2
      have h5 := low_mono p s hi (k + 1)
      have h6 := low_down p s hi' hi (k + 1) (by omega) (by omega) (by omega)
      have h7 := b5.1
      exact absurd ⟨by omega, by omega⟩ h3
    · exact h'
theorem bnd_all {p y al lo hi : Nat} (hy : y ≤ p) (h : Bnd p p y al lo hi) : lo = y ∧ hi = y := by
  obtain ⟨a1, a2, a3, _⟩ := h
  omega

set_option maxHeartbeats 2000000 in
set_option maxRecDepth 100000 in
theorem grows_any (n k t alpha beta : Int) (w : World) : Calls Try.prog 4 #[.int .i64 n, .int .i64 k, .int .i64 t, .int .i64 alpha, .int .i64 beta] w fun e w' => e = .returned (.bool true) ∧ Below w.heap.size w w' := by
  go_enter Try.func4, Try.ntmps4
  go_wp2_with fail
  refine (mod_any _ _ _ (by omega) (by omega)).mono ?_
  rintro e w1 ⟨rfl, rfl⟩
  have b0 := Int.emod_nonneg n (show (24 : Int) ≠ 0 by omega)
  have b1 := Int.emod_lt_of_pos n (show (0 : Int) < 24 by omega)
  generalize n % 24 = q at b0 b1
  obtain ⟨q, rfl⟩ := Int.eq_ofNat_of_zero_le b0
  have hq1 : (1 + (q : Int)) = (q : Int) + 1 := by omega
  go_wp2_with fail
  refine (mod_any _ _ _ (by omega) (by omega)).mono ?_
  rintro e w1 ⟨rfl, rfl⟩
  have s0 := Int.emod_nonneg k (show ((q : Int) + 1 + 1) ≠ 0 by omega)
  have s1 := Int.emod_lt_of_pos k (show 0 < (q : Int) + 1 + 1 by omega)
  generalize k % ((q : Int) + 1 + 1) = s at s0 s1
  obtain ⟨s, rfl⟩ := Int.eq_ofNat_of_zero_le s0
  go_wp2_with fail
  refine (mod_any _ _ _ (by omega) (by omega)).mono ?_
  rintro e w1 ⟨rfl, rfl⟩
  have x0 := Int.emod_nonneg t (show ((s : Int) + 1) ≠ 0 by omega)
  have x1 := Int.emod_lt_of_pos t (show 0 < (s : Int) + 1 by omega)
  generalize t % ((s : Int) + 1) = x at x0 x1
  obtain ⟨x, rfl⟩ := Int.eq_ofNat_of_zero_le x0
  go_wp2_with fail
  refine (mod_any _ _ _ (by omega) (by omega)).mono ?_
  rintro e w1 ⟨rfl, rfl⟩
  have c0 := Int.emod_nonneg alpha (show (999 : Int) ≠ 0 by omega)
  have c1 := Int.emod_lt_of_pos alpha (show (0 : Int) < 999 by omega)
  generalize alpha % 999 = a at c0 c1
  obtain ⟨a, rfl⟩ := Int.eq_ofNat_of_zero_le c0
  go_wp2_with fail
  refine (mod_any _ _ _ (by omega) (by omega)).mono ?_
  rintro e w1 ⟨rfl, rfl⟩
  have d0 := Int.emod_nonneg beta (show (999 : Int) ≠ 0 by omega)
  have d1 := Int.emod_lt_of_pos beta (show (0 : Int) < 999 by omega)
  generalize beta % 999 = b at d0 d1
  obtain ⟨b, rfl⟩ := Int.eq_ofNat_of_zero_le d0
  have ha1 : (1 + (a : Int)) = (a : Int) + 1 := by omega
  have hb1 : (1 + (b : Int)) = (b : Int) + 1 := by omega
  rcases (show (a : Int) < b ∨ (b : Int) < a ∨ a = b by omega) with hab | hab | rfl
  · go_wp2_with fail
    refine (bounds_ok (q + 1) s x (a + 1) _ (by omega) (by omega) (by omega) (by omega) (by omega)).mono ?_
    rintro e w1 ⟨lo, hi, rfl, hB, hb1⟩
    have HB := Lib.hid hB; clear hB
    go_wp2_with fail
    refine (bounds_ok (q + 1) s x (b + 1) _ (by omega) (by omega) (by omega) (by omega) (by omega)).mono ?_
    rintro e w2 ⟨l, h, rfl, hB', hb2⟩
    have hbel := hb1.trans (hb2.mono hb1.size)
    clear hb1 hb2
    have f1 := bnd_al (show a + 1 ≤ b + 1 by omega) HB.out hB'
    have i1 : (lo : Int) ≤ l := by omega
    have i2 : (h : Int) ≤ hi := by omega
    have i3 : (l : Int) ≤ h := by have := hB'.2.1; omega
    have i4 : (x : Int) ≤ lo := by have := HB.out.1; omega
    have i5 : (hi : Int) ≤ (q : Int) + 1 - (s - x) := by have := HB.out.2.2.1; omega
    have i6 : (hi : Int) ≤ 24 := by omega
    clear hB' f1
    by_cases hx : (x : Int) < s
    all_goals go_wp2_with fail
    · refine (bounds_ok (q + 1) s (x + 1) (a + 1) _ (by omega) (by omega) (by omega) (by omega) (by omega)).mono ?_
      rintro e w3 ⟨u, v, rfl, hB2, hb3⟩
      have hbel2 := hbel.trans (hb3.mono hbel.size)
      clear hbel hb3
      have f1 := bnd_k (show x + 1 ≤ s by omega) HB.out hB2
      have i7 : (lo : Int) ≤ u := by omega
      have i8 : (hi : Int) ≤ v := by omega
      clear hB2 f1
      go_wp2_with fail
      refine (mod_any _ _ _ (by omega) (by omega)).mono ?_
      rintro e w4 ⟨rfl, rfl⟩
      have y0 := Int.emod_nonneg t (show ((q : Int) + 1 + 1) ≠ 0 by omega)
      have y1 := Int.emod_lt_of_pos t (show 0 < (q : Int) + 1 + 1 by omega)
      generalize t % ((q : Int) + 1 + 1) = y at y0 y1
      obtain ⟨y, rfl⟩ := Int.eq_ofNat_of_zero_le y0
      go_wp2_with fail
      refine (bounds_ok (q + 1) (q + 1) y (a + 1) _ (by omega) (by omega) (by omega) (by omega) (by omega)).mono ?_
      rintro e w5 ⟨u2, v2, rfl, hB3, hb5⟩
      obtain ⟨rfl, rfl⟩ := bnd_all (by omega) hB3
      clear hB3
      go_wp2_with fail
      refine (awake_any _).mono ?_
      rintro e w7 ⟨rfl, hb7⟩
      go_wp2
      go_ret
      exact ⟨rfl, (hbel2.trans (hb5.mono hbel2.size)).trans (hb7.mono (by have := hb5.size; have := hbel2.size; omega))⟩
    · refine (mod_any _ _ _ (by omega) (by omega)).mono ?_
      rintro e w4 ⟨rfl, rfl⟩
      have y0 := Int.emod_nonneg t (show ((q : Int) + 1 + 1) ≠ 0 by omega)
      have y1 := Int.emod_lt_of_pos t (show 0 < (q : Int) + 1 + 1 by omega)
      generalize t % ((q : Int) + 1 + 1) = y at y0 y1
      obtain ⟨y, rfl⟩ := Int.eq_ofNat_of_zero_le y0
      go_wp2_with fail
      refine (bounds_ok (q + 1) (q + 1) y (a + 1) _ (by omega) (by omega) (by omega) (by omega) (by omega)).mono ?_
      rintro e w5 ⟨u2, v2, rfl, hB3, hb5⟩
      obtain ⟨rfl, rfl⟩ := bnd_all (by omega) hB3
      clear hB3
      go_wp2_with fail
      refine (awake_any _).mono ?_
      rintro e w7 ⟨rfl, hb7⟩
      go_wp2
      go_ret
      exact ⟨rfl, (hbel.trans (hb5.mono hbel.size)).trans (hb7.mono (by have := hb5.size; have := hbel.size; omega))⟩
  · go_wp2_with fail
    refine (bounds_ok (q + 1) s x (b + 1) _ (by omega) (by omega) (by omega) (by omega) (by omega)).mono ?_
    rintro e w1 ⟨lo, hi, rfl, hB, hb1⟩
    have HB := Lib.hid hB; clear hB
    go_wp2_with fail
    refine (bounds_ok (q + 1) s x (a + 1) _ (by omega) (by omega) (by omega) (by omega) (by omega)).mono ?_
    rintro e w2 ⟨l, h, rfl, hB', hb2⟩
    have hbel := hb1.trans (hb2.mono hb1.size)
    clear hb1 hb2
    have f1 := bnd_al (show b + 1 ≤ a + 1 by omega) HB.out hB'
    have i1 : (lo : Int) ≤ l := by omega
    have i2 : (h : Int) ≤ hi := by omega
    have i3 : (l : Int) ≤ h := by have := hB'.2.1; omega
    have i4 : (x : Int) ≤ lo := by have := HB.out.1; omega
    have i5 : (hi : Int) ≤ (q : Int) + 1 - (s - x) := by have := HB.out.2.2.1; omega
    have i6 : (hi : Int) ≤ 24 := by omega
    clear hB' f1
    by_cases hx : (x : Int) < s
    all_goals go_wp2_with fail
    · refine (bounds_ok (q + 1) s (x + 1) (b + 1) _ (by omega) (by omega) (by omega) (by omega) (by omega)).mono ?_
      rintro e w3 ⟨u, v, rfl, hB2, hb3⟩
      have hbel2 := hbel.trans (hb3.mono hbel.size)
      clear hbel hb3
      have f1 := bnd_k (show x + 1 ≤ s by omega) HB.out hB2
      have i7 : (lo : Int) ≤ u := by omega
      have i8 : (hi : Int) ≤ v := by omega
      clear hB2 f1
      go_wp2_with fail
      refine (mod_any _ _ _ (by omega) (by omega)).mono ?_
      rintro e w4 ⟨rfl, rfl⟩
      have y0 := Int.emod_nonneg t (show ((q : Int) + 1 + 1) ≠ 0 by omega)
      have y1 := Int.emod_lt_of_pos t (show 0 < (q : Int) + 1 + 1 by omega)
      generalize t % ((q : Int) + 1 + 1) = y at y0 y1
      obtain ⟨y, rfl⟩ := Int.eq_ofNat_of_zero_le y0
      go_wp2_with fail
      refine (bounds_ok (q + 1) (q + 1) y (a + 1) _ (by omega) (by omega) (by omega) (by omega) (by omega)).mono ?_
      rintro e w5 ⟨u2, v2, rfl, hB3, hb5⟩
      obtain ⟨rfl, rfl⟩ := bnd_all (by omega) hB3
      clear hB3
      go_wp2_with fail
      refine (awake_any _).mono ?_
      rintro e w7 ⟨rfl, hb7⟩
      go_wp2
      go_ret
      exact ⟨rfl, (hbel2.trans (hb5.mono hbel2.size)).trans (hb7.mono (by have := hb5.size; have := hbel2.size; omega))⟩
    · refine (mod_any _ _ _ (by omega) (by omega)).mono ?_
      rintro e w4 ⟨rfl, rfl⟩
      have y0 := Int.emod_nonneg t (show ((q : Int) + 1 + 1) ≠ 0 by omega)
      have y1 := Int.emod_lt_of_pos t (show 0 < (q : Int) + 1 + 1 by omega)
      generalize t % ((q : Int) + 1 + 1) = y at y0 y1
      obtain ⟨y, rfl⟩ := Int.eq_ofNat_of_zero_le y0
      go_wp2_with fail
      refine (bounds_ok (q + 1) (q + 1) y (a + 1) _ (by omega) (by omega) (by omega) (by omega) (by omega)).mono ?_
      rintro e w5 ⟨u2, v2, rfl, hB3, hb5⟩
      obtain ⟨rfl, rfl⟩ := bnd_all (by omega) hB3
      clear hB3
      go_wp2_with fail
      refine (awake_any _).mono ?_
      rintro e w7 ⟨rfl, hb7⟩
      go_wp2
      go_ret
      exact ⟨rfl, (hbel.trans (hb5.mono hbel.size)).trans (hb7.mono (by have := hb5.size; have := hbel.size; omega))⟩
  · go_wp2_with fail
    refine (bounds_ok (q + 1) s x (a + 1) _ (by omega) (by omega) (by omega) (by omega) (by omega)).mono ?_
    rintro e w1 ⟨lo, hi, rfl, hB, hb1⟩
    have HB := Lib.hid hB; clear hB
    go_wp2_with fail
    refine (bounds_ok (q + 1) s x (a + 1) _ (by omega) (by omega) (by omega) (by omega) (by omega)).mono ?_
    rintro e w2 ⟨l, h, rfl, hB', hb2⟩
    have hbel := hb1.trans (hb2.mono hb1.size)
    clear hb1 hb2
    have f1 := bnd_al (show a + 1 ≤ a + 1 by omega) HB.out hB'
    have i1 : (lo : Int) ≤ l := by omega
    have i2 : (h : Int) ≤ hi := by omega
    have i3 : (l : Int) ≤ h := by have := hB'.2.1; omega
    have i4 : (x : Int) ≤ lo := by have := HB.out.1; omega
    have i5 : (hi : Int) ≤ (q : Int) + 1 - (s - x) := by have := HB.out.2.2.1; omega
    have i6 : (hi : Int) ≤ 24 := by omega
    clear hB' f1
    by_cases hx : (x : Int) < s
    all_goals go_wp2_with fail
    · refine (bounds_ok (q + 1) s (x + 1) (a + 1) _ (by omega) (by omega) (by omega) (by omega) (by omega)).mono ?_
      rintro e w3 ⟨u, v, rfl, hB2, hb3⟩
      have hbel2 := hbel.trans (hb3.mono hbel.size)
      clear hbel hb3
      have f1 := bnd_k (show x + 1 ≤ s by omega) HB.out hB2
      have i7 : (lo : Int) ≤ u := by omega
      have i8 : (hi : Int) ≤ v := by omega
      clear hB2 f1
      go_wp2_with fail
      refine (mod_any _ _ _ (by omega) (by omega)).mono ?_
      rintro e w4 ⟨rfl, rfl⟩
      have y0 := Int.emod_nonneg t (show ((q : Int) + 1 + 1) ≠ 0 by omega)
      have y1 := Int.emod_lt_of_pos t (show 0 < (q : Int) + 1 + 1 by omega)
      generalize t % ((q : Int) + 1 + 1) = y at y0 y1
      obtain ⟨y, rfl⟩ := Int.eq_ofNat_of_zero_le y0
      go_wp2_with fail
      refine (bounds_ok (q + 1) (q + 1) y (a + 1) _ (by omega) (by omega) (by omega) (by omega) (by omega)).mono ?_
      rintro e w5 ⟨u2, v2, rfl, hB3, hb5⟩
      obtain ⟨rfl, rfl⟩ := bnd_all (by omega) hB3
      clear hB3
      go_wp2_with fail
      refine (awake_any _).mono ?_
      rintro e w7 ⟨rfl, hb7⟩
      go_wp2
      go_ret
      exact ⟨rfl, (hbel2.trans (hb5.mono hbel2.size)).trans (hb7.mono (by have := hb5.size; have := hbel2.size; omega))⟩
    · refine (mod_any _ _ _ (by omega) (by omega)).mono ?_
      rintro e w4 ⟨rfl, rfl⟩
      have y0 := Int.emod_nonneg t (show ((q : Int) + 1 + 1) ≠ 0 by omega)
      have y1 := Int.emod_lt_of_pos t (show 0 < (q : Int) + 1 + 1 by omega)
      generalize t % ((q : Int) + 1 + 1) = y at y0 y1
      obtain ⟨y, rfl⟩ := Int.eq_ofNat_of_zero_le y0
      go_wp2_with fail
      refine (bounds_ok (q + 1) (q + 1) y (a + 1) _ (by omega) (by omega) (by omega) (by omega) (by omega)).mono ?_
      rintro e w5 ⟨u2, v2, rfl, hB3, hb5⟩
      obtain ⟨rfl, rfl⟩ := bnd_all (by omega) hB3
      clear hB3
      go_wp2_with fail
      refine (awake_any _).mono ?_
      rintro e w7 ⟨rfl, hb7⟩
      go_wp2
      go_ret
      exact ⟨rfl, (hbel.trans (hb5.mono hbel.size)).trans (hb7.mono (by have := hb5.size; have := hbel.size; omega))⟩
end Go.Proofs.Ythpibcnlgocjhab
