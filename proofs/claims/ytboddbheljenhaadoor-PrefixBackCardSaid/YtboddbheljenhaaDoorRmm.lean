/-
  Layer 2: the bytes of an address as one number, and back. No walk.
-/
import Derived.Test.YtboddbheljenhaaDoorG09
import Derived.Test.YtboddbheljenhaaDoorBz
namespace Go.Proofs.YtboddbheljenhaaDoor
open Go.RowKit
theorem by4_beB (x : Nat) : by4 (x : Int) 0 = beB 4 x := by
  simp [by4, beB, List.range, List.range.loop]
theorem a16_beB (h l : Nat) (hl : l < 18446744073709551616) : a16 (h : Int) (l : Int) = beB 16 (h * 18446744073709551616 + l) := by
  simp [a16, by8, beB, List.range, List.range.loop]
  omega
theorem from_beB4 (y : Nat) (h : y < 4294967296) : fromZ (beB 4 y) = (false, 0, (y : Int)) ∧ fromE (beB 4 y) = 0 := by
  refine ⟨?_, by unfold fromE; rw [beB_length]; rfl⟩
  unfold fromZ
  rw [beB_length, if_pos rfl]
  congr 2
  simp [beB, numZ, List.range, List.range.loop]
  omega
theorem from_beB16 (y : Nat) (h : y < 340282366920938463463374607431768211456) : fromZ (beB 16 y) = (true, ((y / 18446744073709551616 : Nat) : Int), ((y % 18446744073709551616 : Nat) : Int)) ∧ fromE (beB 16 y) = 0 := by
  refine ⟨?_, by unfold fromE; rw [beB_length]; rfl⟩
  unfold fromZ
  rw [beB_length, if_neg (by decide), if_pos rfl]
  congr 1
  congr 1
  · simp [beB, numZ, List.range, List.range.loop]
    omega
  · simp [beB, numZ, List.range, List.range.loop]
    omega
theorem bytes_beB (m y : Nat) : Bytes (beB m y) := fun z hz => by
  obtain ⟨j, _, rfl⟩ := List.mem_map.1 hz
  omega
/-- The first address of a prefix, by its one number. -/
theorem cut_six (h l N : Nat) (hl : l < 18446744073709551616) (hN : N ≤ 128) : (((h * 18446744073709551616 + l - (h * 18446744073709551616 + l) % 2 ^ (128 - N)) / 18446744073709551616 : Nat) : Int) = cutZ (h : Int) (khN true N) ∧ (((h * 18446744073709551616 + l - (h * 18446744073709551616 + l) % 2 ^ (128 - N)) % 18446744073709551616 : Nat) : Int) = cutZ (l : Int) (klN true N) := by
  rw [cutZ_nat, cutZ_nat]
  unfold khN klN
  rw [if_pos rfl, if_pos rfl]
  have e64 : (2 : Nat) ^ 64 = 18446744073709551616 := by decide
  by_cases c : N < 64
  · rw [Nat.min_eq_left (by omega), e64]
    have hp : (2 : Nat) ^ (128 - N) = 18446744073709551616 * 2 ^ (64 - N) := by rw [← e64, ← Nat.pow_add]; congr 1; omega
    have hm : (h * 18446744073709551616 + l) % 2 ^ (128 - N) = 18446744073709551616 * (h % 2 ^ (64 - N)) + l := by
      rw [hp, Nat.mod_mul]
      have e1 : (h * 18446744073709551616 + l) % 18446744073709551616 = l := by omega
      have e2 : (h * 18446744073709551616 + l) / 18446744073709551616 = h := by omega
      rw [e1, e2]
      omega
    have hh := Nat.mod_le h (2 ^ (64 - N))
    rw [hm]
    generalize h % 2 ^ (64 - N) = r at *
    constructor
    · congr 1; omega
    · congr 1; omega
  · rw [show 64 - N = 0 by omega, Nat.min_eq_right (by omega), Nat.pow_zero, Nat.mod_one, Nat.sub_zero]
    have hd : (18446744073709551616 : Nat) = 2 ^ (128 - N) * 2 ^ (64 - (128 - N)) := by rw [← e64, ← Nat.pow_add]; congr 1; omega
    have hm : (h * 18446744073709551616 + l) % 2 ^ (128 - N) = l % 2 ^ (128 - N) := by
      rw [hd, show h * (2 ^ (128 - N) * 2 ^ (64 - (128 - N))) = 2 ^ (128 - N) * (h * 2 ^ (64 - (128 - N))) by rw [← Nat.mul_assoc, Nat.mul_comm h, Nat.mul_assoc], Nat.mul_add_mod]
    have hl2 := Nat.mod_le l (2 ^ (128 - N))
    rw [hm]
    generalize l % 2 ^ (128 - N) = r at *
    constructor
    · congr 1; omega
    · congr 1; omega
theorem clr_step {X k c y : Nat} (hc : c + 1 ≤ k) (e : y = clr X k (c + 1)) : ∀ t, (clr X k c).testBit t = (y.testBit t && !decide (t = c)) := fun t => by
  rw [e, clr_bit (by omega), clr_bit hc]
  by_cases h1 : t = c
  · subst h1
    simp [show t < k by omega]
  · have : decide (c ≤ t) = decide (c + 1 ≤ t) := by rw [decide_eq_decide]; omega
    simp [h1, this]
theorem mul_clr {X k c : Nat} (h : c ≤ k) (m : Nat) (hk : k ≤ m) (hX : X < 2 ^ m) : clr X k c < 2 ^ m := by
  apply Nat.lt_pow_two_of_testBit
  intro t ht
  rw [clr_bit h]
  have : X.testBit t = false := Nat.testBit_lt_two_pow (Nat.lt_of_lt_of_le hX (Nat.pow_le_pow_right (by decide) ht))
  rw [this]
  rfl
end Go.Proofs.YtboddbheljenhaaDoor
