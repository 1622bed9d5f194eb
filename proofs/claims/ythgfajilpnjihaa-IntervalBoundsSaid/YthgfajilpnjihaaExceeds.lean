/-
  Layer 39: products of 128 bits, what is plausible, and the bounds.
-/
import Derived.Test.YthgfajilpnjihaaAtLeast
import Derived.Test.YthgfajilpnjihaaTails
import Derived.Laws.BitsLemmas
namespace Go.Proofs.Ythgfajilpnjihaa
open Go.RowKit

theorem u64_in (n : Int) (h0 : 0 ≤ n) (h1 : n < 18446744073709551616) : IntKind.u64.wrap n = n := by
  simp only [IntKind.wrap, IntKind.bits, IntKind.signed]
  simp; omega
theorem and_32 (x : Int) (hx : 0 ≤ x) (hx1 : x < 9223372036854775808) : bits .and .u64 x 4294967295 = x % 4294967296 :=
  bits_mask .u64 63 (by decide) (fun n h0 h1 => u64_in n h0 (by omega)) 32 (by omega) x hx (by omega)

/-- The upper and the lower half of a product, as the text of Mul64 has them, for a small first factor. -/
theorem halves (x y : Int) (hx : 0 ≤ x) (hx1 : x ≤ 2000) (hy : 0 ≤ y) (hy1 : y ≤ 1152921504606846976) :
    (x * (y % 4294967296)) / 4294967296 + x * (y / 4294967296) < 9223372036854775808 ∧ 0 ≤ x * (y % 4294967296) ∧ x * (y % 4294967296) ≤ 8589934592000 ∧ 0 ≤ x * (y / 4294967296) ∧ x * (y / 4294967296) ≤ 536870912000 ∧
    ((x * (y % 4294967296)) / 4294967296 + x * (y / 4294967296)) / 4294967296 = x * y / 18446744073709551616 := by
  have e : x * y = x * (y % 4294967296) + 4294967296 * (x * (y / 4294967296)) := by
    have h := Int.emod_add_mul_ediv y 4294967296
    have h2 : x * y = x * (y % 4294967296 + 4294967296 * (y / 4294967296)) := by rw [h]
    rw [h2, Int.mul_add, ← Int.mul_assoc, ← Int.mul_assoc, Int.mul_comm x 4294967296]
  have a0 : 0 ≤ y % 4294967296 := by omega
  have a1 : y % 4294967296 ≤ 4294967296 := by omega
  have b0 : 0 ≤ y / 4294967296 := by omega
  have b1 : y / 4294967296 ≤ 268435456 := by omega
  have c0 : 0 ≤ x * (y % 4294967296) := Int.mul_nonneg hx a0
  have c1 : x * (y % 4294967296) ≤ 2000 * 4294967296 := Int.mul_le_mul hx1 a1 a0 (by omega)
  have d0 : 0 ≤ x * (y / 4294967296) := Int.mul_nonneg hx b0
  have d1 : x * (y / 4294967296) ≤ 2000 * 268435456 := Int.mul_le_mul hx1 b1 b0 (by omega)
  rw [e]
  generalize x * (y % 4294967296) = u at *
  generalize x * (y / 4294967296) = v at *
  omega

theorem mul_hi (x y : Int) (hx : 0 ≤ x) (hx1 : x ≤ 2000) (hy : 0 ≤ y) (hy1 : y ≤ 1152921504606846976) :
    IntKind.u64.wrap (x * (y % 4294967296) / 4294967296 / 4294967296 + IntKind.u64.wrap (bits .and .u64 (x * (y % 4294967296) / 4294967296) 4294967295 + x * (y / 4294967296)) / 4294967296) = x * y / 18446744073709551616 := by
  obtain ⟨h1, h2, h3, h4, h5, h6⟩ := halves x y hx hx1 hy hy1
  rw [and_32 _ (by omega) (by omega), ← h6]
  generalize x * (y % 4294967296) = u at *
  generalize x * (y / 4294967296) = v at *
  have e1 : u / 4294967296 / 4294967296 = 0 := by omega
  have e2 : u / 4294967296 % 4294967296 = u / 4294967296 := by omega
  rw [e1, e2, u64_in (u / 4294967296 + v) (by omega) (by omega), Int.zero_add, u64_in _ (by omega) (by omega)]
theorem mul_lo (n : Int) : IntKind.u64.wrap n = n % 18446744073709551616 := by
  simp only [IntKind.wrap, IntKind.bits, IntKind.signed]
  simp

set_option maxHeartbeats 1000000 in
theorem mul_any (x y : Int) (w : World) (hx : 0 ≤ x) (hx1 : x ≤ 2000) (hy : 0 ≤ y) (hy1 : y ≤ 1152921504606846976) :
    Calls Try.prog 31 #[.int .u64 x, .int .u64 y] w fun e w' => e = .returned (.tuple #[.int .u64 (x * y / 18446744073709551616), .int .u64 (x * y % 18446744073709551616)]) ∧ w = w' := by
  obtain ⟨h1, h2, h3, h4, h5, h6⟩ := halves x y hx hx1 hy hy1
  have g1 := and_32 x hx (by omega)
  have g2 := and_32 y hy (by omega)
  have g3 : x % 4294967296 = x := by omega
  have g4 : x / 4294967296 = 0 := by omega
  have H6 := Lib.hid (mul_hi x y hx hx1 hy hy1)
  clear h6
  go_enter Try.func31, Try.ntmps31
  go_wp2_with fail
  go_ret2
  refine ⟨?_, rfl⟩
  rw [← H6.out, ← mul_lo]
  rfl

/-- Products of 128 bits are compared as they are. -/
theorem cmp128 (a b : Int) : (b / 18446744073709551616 < a / 18446744073709551616 ∨ a / 18446744073709551616 = b / 18446744073709551616 ∧ b % 18446744073709551616 < a % 18446744073709551616) ↔ b < a := by
  omega

def Exc (n al all : Nat) : Bool := decide (al * all < 2000 * n)

set_option maxHeartbeats 1000000 in
theorem exceeds_any (n al all : Nat) (w : World) (h1 : n ≤ 1152921504606846976) (h2 : al ≤ 2000) (h3 : all ≤ 1152921504606846976) :
    Calls Try.prog 30 #[.int .i64 n, .int .i64 al, .int .i64 all] w fun e w' => e = .returned (.bool (Exc n al all)) ∧ w = w' := by
  have c1 : IntKind.u64.wrap (n : Int) = n := u64_in _ (by omega) (by omega)
  have c2 : IntKind.u64.wrap (al : Int) = al := u64_in _ (by omega) (by omega)
  have c3 : IntKind.u64.wrap (all : Int) = all := u64_in _ (by omega) (by omega)
  have hcmp := cmp128 (2000 * (n : Int)) ((al : Int) * all)
  have hfin : Exc n al all = decide ((al : Int) * all < 2000 * (n : Int)) := by
    unfold Exc
    rw [decide_eq_decide]
    constructor
    · intro h
      have := Int.ofNat_lt.2 h
      simpa using this
    · intro h
      have h' : ((al * all : Nat) : Int) < ((2000 * n : Nat) : Int) := by simpa using h
      exact Int.ofNat_lt.1 h'
  have HC := Lib.hid hcmp
  have HF := Lib.hid hfin
  clear hcmp hfin
  go_enter Try.func30, Try.ntmps30
  go_wp2_with fail
  refine (mul_any 2000 n _ (by omega) (by omega) (by omega) (by omega)).mono ?_
  rintro e w1 ⟨rfl, rfl⟩
  go_wp2_with fail
  refine (mul_any al all _ (by omega) (by omega) (by omega) (by omega)).mono ?_
  rintro e w1 ⟨rfl, rfl⟩
  generalize 2000 * (n : Int) = a at HC HF
  generalize (al : Int) * all = b at HC HF
  generalize a / 18446744073709551616 = ah at HC
  generalize b / 18446744073709551616 = bh at HC
  generalize a % 18446744073709551616 = al' at HC
  generalize b % 18446744073709551616 = bl at HC
  rcases (show bh < ah ∨ ah < bh ∨ ah = bh by omega) with h | h | h
  · have hab : b < a := HC.out.1 (.inl h)
    have HAB := Lib.hid hab; clear hab
    go_wp2
    go_ret
    refine ⟨?_, rfl⟩
    rw [HF.out, decide_eq_true HAB.out]
    exact congrArg (fun b => Ending.returned (.bool b)) (by first | rfl | (simp; omega))
  · have hab : ¬ b < a := fun hh => by
      rcases HC.out.2 hh with h' | ⟨h', _⟩ <;> omega
    have HAB := Lib.hid hab; clear hab
    have g1 : (ah == bh) = false := by rw [beq_eq_false_iff_ne]; omega
    have g2 : decide (bh < ah) = false := decide_eq_false (by omega)
    go_wp2
    go_ret
    refine ⟨?_, rfl⟩
    rw [HF.out, decide_eq_false (by have := HAB.out; omega)]
    exact congrArg (fun b => Ending.returned (.bool b)) (by first | rfl | (simp; omega))
  · subst h
    have hab : (b < a) ↔ bl < al' := by
      rw [← HC.out]
      constructor
      · rintro (h | ⟨_, h⟩)
        · omega
        · exact h
      · exact fun h => .inr ⟨rfl, h⟩
    have HAB := Lib.hid hab; clear hab
    go_wp2
    go_ret
    refine ⟨?_, rfl⟩
    have e : decide (b < a) = decide (bl < al') := decide_eq_decide.2 HAB.out
    rw [HF.out, e]
    exact congrArg (fun b => Ending.returned (.bool b)) (by first | rfl | (simp; omega))
end Go.Proofs.Ythgfajilpnjihaa
