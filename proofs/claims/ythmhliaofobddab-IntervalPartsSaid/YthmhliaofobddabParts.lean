/-
  IntervalParts (layer 39): the walk. Pascal's rule, and that at least k and at most k - 1 marked things are complementary. No condition on the arguments.
-/
import Derived.Test.YthmhliaofobddabAtLeast
namespace Go.Proofs.Ythmhliaofobddab
open Go.RowKit

theorem both (p s x : Nat) (y : Int) (h3 : x ≤ p) (h4 : -1 ≤ y) (h5 : y ≤ s + 1) : many p s x y s + many p s x 0 (y - 1) = C p s := by
  have hv := vander_min x (p - x) s (min s x) (by omega) (by omega)
  rw [show x + (p - x) = p by omega] at hv
  unfold many span
  have e1 : (min (min (s : Int) s) x) = ((min s x : Nat) : Int) := by omega
  rw [e1]
  by_cases h0 : y ≤ 0
  · have a1 : max y 0 = 0 := by omega
    have a2 : (max (0 : Int) (((min s x : Nat) : Int) + 1)).toNat = min s x + 1 := by omega
    have a3 : (max (max (0 : Int) 0) (min (min (y - 1) s) x + 1)).toNat = 0 := by omega
    rw [a1, a2, a3, hv]
    show (C p s : Int) - (0 : Nat) + (((0 : Nat) : Int) - (0 : Nat)) = C p s
    omega
  · obtain ⟨k, rfl⟩ := Int.eq_ofNat_of_zero_le (show 0 ≤ y by omega)
    have a1 : max (k : Int) 0 = k := by omega
    rw [a1]
    have a4 : (max (0 : Int) 0).toNat = 0 := by decide
    rw [a4, Int.toNat_natCast]
    by_cases h6 : k ≤ min s x + 1
    · have a2 : (max (k : Int) (((min s x : Nat) : Int) + 1)).toNat = min s x + 1 := by omega
      have a3 : (max (max (0 : Int) 0) (min (min ((k : Int) - 1) s) x + 1)).toNat = k := by omega
      rw [a2, a3, hv]
      show (C p s : Int) - _ + (_ - (0 : Nat)) = C p s
      omega
    · have a2 : (max (k : Int) (((min s x : Nat) : Int) + 1)).toNat = k := by omega
      have a3 : (max (max (0 : Int) 0) (min (min ((k : Int) - 1) s) x + 1)).toNat = min s x + 1 := by omega
      rw [a2, a3, hv]
      show _ - _ + ((C p s : Int) - (0 : Nat)) = C p s
      omega

theorem many_nonneg (p s m : Nat) (l h : Int) : 0 ≤ many p s m l h := by
  unfold many span
  generalize min (min h (s : Int)) m = hi
  have h1 := sumTo_mono (term m (p - m) s) (max l 0).toNat ((max (max l 0) (hi + 1)).toNat - (max l 0).toNat)
  rw [show (max l 0).toNat + ((max (max l 0) (hi + 1)).toNat - (max l 0).toNat) = (max (max l 0) (hi + 1)).toNat by omega] at h1
  omega

set_option maxHeartbeats 2000000 in
theorem parts_any (n k m t : Int) (w : World) : Calls Try.prog 3 #[.int .i64 n, .int .i64 k, .int .i64 m, .int .i64 t] w fun e w' => e = .returned (.bool true) ∧ Below w.heap.size w w' := by
  go_enter Try.func3, Try.ntmps3
  go_wp2_with fail
  refine (mod_any _ _ _ (by omega) (by omega)).mono ?_
  rintro e w1 ⟨rfl, rfl⟩
  have b0 := Int.emod_nonneg n (show (60 : Int) ≠ 0 by omega)
  have b1 := Int.emod_lt_of_pos n (show (0 : Int) < 60 by omega)
  generalize n % 60 = q at b0 b1
  obtain ⟨q, rfl⟩ := Int.eq_ofNat_of_zero_le b0
  go_wp2_with fail
  refine (mod_any _ _ _ (by omega) (by omega)).mono ?_
  rintro e w1 ⟨rfl, rfl⟩
  have s0 := Int.emod_nonneg k (show (1 + (q : Int) + 1) ≠ 0 by omega)
  have s1 := Int.emod_lt_of_pos k (show 0 < 1 + (q : Int) + 1 by omega)
  generalize k % (1 + (q : Int) + 1) = s at s0 s1
  obtain ⟨s, rfl⟩ := Int.eq_ofNat_of_zero_le s0
  have hq1 : (1 + (q : Int)) = (q : Int) + 1 := by omega
  rw [hq1] at s1
  have hpa : s ≤ q → 0 < s → (C q s : Int) + C q (s - 1) = C (q + 1) s := fun _ h => by
    obtain ⟨s', rfl⟩ : ∃ s', s = s' + 1 := ⟨s - 1, by omega⟩
    rw [C_succ]; simp; omega
  have hC1 := C_small q s (by omega)
  have hC2 := C_small q (s - 1) (by omega)
  rcases (show (s : Int) ≤ 0 ∨ (0 < (s : Int) ∧ (s : Int) ≤ q) ∨ (q : Int) < s by omega) with h | ⟨h, h'⟩ | h
  · clear hpa hC1 hC2
    have h3 : (s : Int) ≤ q := by omega
    have h4 : s ≤ q := by omega
    go_wp2_with fail
    refine (choose_ok (q + 1) s _ (by omega) (by omega)).mono ?_
    rintro e w1 ⟨rfl, hb1⟩
    go_wp2_with fail
    refine (choose_ok q s _ (by omega) (by omega)).mono ?_
    rintro e w2 ⟨rfl, hb2⟩
    have hbel := hb1.trans (hb2.mono hb1.size)
    clear hb1 hb2
    go_wp2_with fail
    refine (mod_any _ _ _ (by omega) (by omega)).mono ?_
    rintro e w4 ⟨rfl, rfl⟩
    have x0 := Int.emod_nonneg m (show ((q : Int) + 1 + 1) ≠ 0 by omega)
    have x1 := Int.emod_lt_of_pos m (show 0 < (q : Int) + 1 + 1 by omega)
    generalize m % ((q : Int) + 1 + 1) = x at x0 x1
    obtain ⟨x, rfl⟩ := Int.eq_ofNat_of_zero_le x0
    go_wp2_with fail
    refine (mod_any _ _ _ (by omega) (by omega)).mono ?_
    rintro e w4 ⟨rfl, rfl⟩
    have y0 := Int.emod_nonneg t (show (s : Int) + 3 ≠ 0 by omega)
    have y1 := Int.emod_lt_of_pos t (show 0 < (s : Int) + 3 by omega)
    generalize t % ((s : Int) + 3) = y at y0 y1
    go_wp2_with fail
    refine (atleast_ok (q + 1) s x _ _ (by omega) (by omega) (by omega)).mono ?_
    rintro e w5 ⟨rfl, hb5⟩
    go_wp2_with fail
    refine (atmost_ok (q + 1) s x _ _ (by omega) (by omega) (by omega)).mono ?_
    rintro e w6 ⟨rfl, hb6⟩
    have hbo := both (q + 1) s x (y - 1) (by omega) (by omega) (by omega)
    have hC := C_small (q + 1) s (by omega)
    have n1 : 0 ≤ many (q + 1) s x (y - 1) s := many_nonneg _ _ _ _ _
    have n2 : 0 ≤ many (q + 1) s x 0 (y - 1 - 1) := many_nonneg _ _ _ _ _
    generalize many (q + 1) s x (y - 1) s = u at hbo n1
    generalize many (q + 1) s x 0 (y - 1 - 1) = v at hbo n2
    have hu : u + v ≤ 1152921504606846976 := by omega
    have hv : u ≤ 1152921504606846976 := by omega
    have hv2 : v ≤ 1152921504606846976 := by omega
    have he : (u + v == ((C (q + 1) s : Nat) : Int)) = true := by rw [beq_iff_eq]; exact hbo
    clear hbo hC
    go_wp2_with fail
    refine (awake_any _).mono ?_
    rintro e w7 ⟨rfl, hb7⟩
    go_wp2
    go_ret
    exact ⟨rfl, hbel.trans (((hb5.trans (hb6.mono hb5.size)).trans (hb7.mono (by have := hb5.size; have := hb6.size; omega))).mono hbel.size)⟩
  · have hp := hpa (by omega) (by omega)
    clear hpa
    have h4 : s ≤ q := by omega
    have h5 : 0 < s := by omega
    have h6 : (s : Int) < q + 1 := by omega
    have h7 : (s : Int) - 1 = ((s - 1 : Nat) : Int) := by omega
    have hbb : ((C q s : Int) + C q (s - 1) == ((C (q + 1) s : Nat) : Int)) = true := by rw [beq_iff_eq]; exact hp
    have HP := Lib.hid hp; clear hp
    have H7 := Lib.hid h7; clear h7
    go_wp2_with fail
    refine (choose_ok (q + 1) s _ (by omega) (by omega)).mono ?_
    rintro e w1 ⟨rfl, hb1⟩
    go_wp2_with fail
    refine (choose_ok q s _ (by omega) (by omega)).mono ?_
    rintro e w2 ⟨rfl, hb2⟩
    go_wp2_with fail
    rw [H7.out]
    refine (choose_ok q (s - 1) _ (by omega) (by omega)).mono ?_
    rintro e w3 ⟨rfl, hb3⟩
    have hbel := (hb1.trans (hb2.mono hb1.size)).trans (hb3.mono (by have := hb1.size; have := hb2.size; omega))
    clear hb1 hb2 hb3
    go_wp2_with fail
    refine (mod_any _ _ _ (by omega) (by omega)).mono ?_
    rintro e w4 ⟨rfl, rfl⟩
    have x0 := Int.emod_nonneg m (show ((q : Int) + 1 + 1) ≠ 0 by omega)
    have x1 := Int.emod_lt_of_pos m (show 0 < (q : Int) + 1 + 1 by omega)
    generalize m % ((q : Int) + 1 + 1) = x at x0 x1
    obtain ⟨x, rfl⟩ := Int.eq_ofNat_of_zero_le x0
    go_wp2_with fail
    refine (mod_any _ _ _ (by omega) (by omega)).mono ?_
    rintro e w4 ⟨rfl, rfl⟩
    have y0 := Int.emod_nonneg t (show (s : Int) + 3 ≠ 0 by omega)
    have y1 := Int.emod_lt_of_pos t (show 0 < (s : Int) + 3 by omega)
    generalize t % ((s : Int) + 3) = y at y0 y1
    go_wp2_with fail
    refine (atleast_ok (q + 1) s x _ _ (by omega) (by omega) (by omega)).mono ?_
    rintro e w5 ⟨rfl, hb5⟩
    go_wp2_with fail
    refine (atmost_ok (q + 1) s x _ _ (by omega) (by omega) (by omega)).mono ?_
    rintro e w6 ⟨rfl, hb6⟩
    have hbo := both (q + 1) s x (y - 1) (by omega) (by omega) (by omega)
    have hC := C_small (q + 1) s (by omega)
    have n1 : 0 ≤ many (q + 1) s x (y - 1) s := many_nonneg _ _ _ _ _
    have n2 : 0 ≤ many (q + 1) s x 0 (y - 1 - 1) := many_nonneg _ _ _ _ _
    generalize many (q + 1) s x (y - 1) s = u at hbo n1
    generalize many (q + 1) s x 0 (y - 1 - 1) = v at hbo n2
    have hu : u + v ≤ 1152921504606846976 := by omega
    have hv : u ≤ 1152921504606846976 := by omega
    have hv2 : v ≤ 1152921504606846976 := by omega
    have he : (u + v == ((C (q + 1) s : Nat) : Int)) = true := by rw [beq_iff_eq]; exact hbo
    clear hbo hC
    go_wp2_with fail
    refine (awake_any _).mono ?_
    rintro e w7 ⟨rfl, hb7⟩
    go_wp2
    go_ret
    exact ⟨rfl, hbel.trans (((hb5.trans (hb6.mono hb5.size)).trans (hb7.mono (by have := hb5.size; have := hb6.size; omega))).mono hbel.size)⟩
  · clear hpa hC1 hC2
    have h4 : ¬ (s : Int) < q + 1 := by omega
    go_wp2_with fail
    refine (choose_ok (q + 1) s _ (by omega) (by omega)).mono ?_
    rintro e w1 ⟨rfl, hb1⟩
    go_wp2_with fail
    refine (choose_ok q q _ (by omega) (by omega)).mono ?_
    rintro e w2 ⟨rfl, hb2⟩
    have hbel := hb1.trans (hb2.mono hb1.size)
    clear hb1 hb2
    go_wp2_with fail
    refine (mod_any _ _ _ (by omega) (by omega)).mono ?_
    rintro e w4 ⟨rfl, rfl⟩
    have x0 := Int.emod_nonneg m (show ((q : Int) + 1 + 1) ≠ 0 by omega)
    have x1 := Int.emod_lt_of_pos m (show 0 < (q : Int) + 1 + 1 by omega)
    generalize m % ((q : Int) + 1 + 1) = x at x0 x1
    obtain ⟨x, rfl⟩ := Int.eq_ofNat_of_zero_le x0
    go_wp2_with fail
    refine (mod_any _ _ _ (by omega) (by omega)).mono ?_
    rintro e w4 ⟨rfl, rfl⟩
    have y0 := Int.emod_nonneg t (show (s : Int) + 3 ≠ 0 by omega)
    have y1 := Int.emod_lt_of_pos t (show 0 < (s : Int) + 3 by omega)
    generalize t % ((s : Int) + 3) = y at y0 y1
    go_wp2_with fail
    refine (atleast_ok (q + 1) s x _ _ (by omega) (by omega) (by omega)).mono ?_
    rintro e w5 ⟨rfl, hb5⟩
    go_wp2_with fail
    refine (atmost_ok (q + 1) s x _ _ (by omega) (by omega) (by omega)).mono ?_
    rintro e w6 ⟨rfl, hb6⟩
    have hbo := both (q + 1) s x (y - 1) (by omega) (by omega) (by omega)
    have hC := C_small (q + 1) s (by omega)
    have n1 : 0 ≤ many (q + 1) s x (y - 1) s := many_nonneg _ _ _ _ _
    have n2 : 0 ≤ many (q + 1) s x 0 (y - 1 - 1) := many_nonneg _ _ _ _ _
    generalize many (q + 1) s x (y - 1) s = u at hbo n1
    generalize many (q + 1) s x 0 (y - 1 - 1) = v at hbo n2
    have hu : u + v ≤ 1152921504606846976 := by omega
    have hv : u ≤ 1152921504606846976 := by omega
    have hv2 : v ≤ 1152921504606846976 := by omega
    have he : (u + v == ((C (q + 1) s : Nat) : Int)) = true := by rw [beq_iff_eq]; exact hbo
    clear hbo hC
    go_wp2_with fail
    refine (awake_any _).mono ?_
    rintro e w7 ⟨rfl, hb7⟩
    go_wp2
    go_ret
    exact ⟨rfl, hbel.trans (((hb5.trans (hb6.mono hb5.size)).trans (hb7.mono (by have := hb5.size; have := hb6.size; omega))).mono hbel.size)⟩
end Go.Proofs.Ythmhliaofobddab
