/-
  Layer 2: the bits of the first and of the last address of a prefix.
-/
import Derived.Test.YtboddbheljenhaaGreatDoorPf2
namespace Go.Proofs.YtboddbheljenhaaGreatDoor
open Go.RowKit
theorem fstH_idem (v : Bool) (hi n : Int) : fstH v (fstH v hi n) n = fstH v hi n := cutZ_idem _ _
theorem fstL_idem (v : Bool) (lo n : Int) : fstL v (fstL v lo n) n = fstL v lo n := cutZ_idem _ _
theorem lstH_rng {v : Bool} {hi : Int} (n : Int) (h0 : 0 ≤ hi) (h1 : hi < 18446744073709551616) : 0 ≤ lstH v hi n ∧ lstH v hi n < 18446744073709551616 := by
  have := filZ_bd (khN v (clN v n)) 64 h0 h1 (khN_le _ _)
  unfold lstH
  exact ⟨by omega, this.2⟩
theorem lstL_rng {v : Bool} {lo : Int} (n : Int) (h0 : 0 ≤ lo) (h1 : lo < 18446744073709551616) : 0 ≤ lstL v lo n ∧ lstL v lo n < 18446744073709551616 := by
  have := filZ_bd (klN v (clN v n)) 64 h0 h1 (klN_le _ _)
  unfold lstL
  exact ⟨by omega, this.2⟩
theorem cl_of {v : Bool} {N : Nat} (h : N ≤ wiN v) : clN v (N : Int) = N := by have := clN_in v (N : Int) (by omega) (by omega); omega
theorem bit_first {v : Bool} {hi lo : Int} {N i : Nat} (h0 : 0 ≤ hi) (g0 : 0 ≤ lo) (hN : N ≤ wiN v) (hi' : i < wiN v) : bitA v (fstH v hi N) (fstL v lo N) i = if i < N then bitA v hi lo i else 0 := by
  unfold bitA fstH fstL
  rw [cl_of hN, bitZ_cut _ _ _ h0, bitZ_cut _ _ _ g0, bitZ_cut _ _ _ g0]
  cases v with
  | true =>
    have hi2 : i < 128 := hi'
    have hN2 : N ≤ 128 := hN
    simp only [khN, klN, if_true]
    by_cases h : i < 64
    · rw [if_pos h, if_pos h]
      by_cases c : i < N
      · rw [if_neg (by omega), if_pos c]
      · rw [if_pos (by omega), if_neg c]
    · rw [if_neg h, if_neg h]
      by_cases c : i < N
      · rw [if_neg (by omega), if_pos c]
      · rw [if_pos (by omega), if_neg c]
  | false =>
    have hi2 : i < 32 := hi'
    have hN2 : N ≤ 32 := hN
    simp only [khN, klN, Bool.false_eq_true, if_false]
    by_cases c : i < N
    · rw [if_neg (by omega), if_pos c]
    · rw [if_pos (by omega), if_neg c]
theorem bit_last {v : Bool} {hi lo : Int} {N i : Nat} (h0 : 0 ≤ hi) (g0 : 0 ≤ lo) (hN : N ≤ wiN v) (hi' : i < wiN v) (c : ¬ i < N) : bitA v (lstH v hi N) (lstL v lo N) i = 1 := by
  unfold bitA lstH lstL
  rw [cl_of hN, bitZ_fil _ _ _ h0, bitZ_fil _ _ _ g0, bitZ_fil _ _ _ g0]
  cases v with
  | true =>
    have hi2 : i < 128 := hi'
    have hN2 : N ≤ 128 := hN
    simp only [khN, klN, if_true]
    by_cases h : i < 64
    · rw [if_pos h, if_pos (by omega)]
    · rw [if_neg h, if_pos (by omega)]
  | false =>
    have hi2 : i < 32 := hi'
    have hN2 : N ≤ 32 := hN
    simp only [khN, klN, Bool.false_eq_true, if_false]
    rw [if_pos (by omega)]
theorem okA_of {v : Bool} {hi lo : Int} (h : AOk v hi lo) : okA' v hi lo = true := by
  obtain ⟨h0, h1, h2, h3, h4⟩ := h
  unfold okA'
  cases v with
  | true => rfl
  | false =>
    obtain ⟨rfl, h5⟩ := h4 rfl
    simp; omega
/-- The first address of a prefix is valid where the address is. -/
theorem aok_first {v : Bool} {hi lo : Int} (n : Int) (h : AOk v hi lo) : AOk v (fstH v hi n) (fstL v lo n) := by
  obtain ⟨h0, h1, h2, h3, h4⟩ := h
  have a := cutZ_bd (khN v (clN v n)) h0
  have b := cutZ_bd (klN v (clN v n)) h2
  refine ⟨a.1, by unfold fstH; omega, b.1, by unfold fstL; omega, fun hv => ?_⟩
  obtain ⟨rfl, h5⟩ := h4 hv
  unfold fstH fstL
  omega
end Go.Proofs.YtboddbheljenhaaGreatDoor
