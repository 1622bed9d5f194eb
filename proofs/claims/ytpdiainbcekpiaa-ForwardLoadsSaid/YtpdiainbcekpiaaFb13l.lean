/-
  Layer 13: the fabrics that are made: about lists alone.
-/
import Derived.Test.YtpdiainbcekpiaaFb13b
namespace Go.Proofs.Ytpdiainbcekpiaa
open Go.RowKit
def fl1 (zs : List Int) (sw : Int) (p : Nat) : Nat → List (Int × Int × Int) × Nat
  | 0 => ([], p)
  | j + 1 => ((fl1 zs sw p j).1 ++ [(nextV zs (fl1 zs sw p j).2 sw, (nextV zs (fl1 zs sw p j).2 sw + 1 + nextV zs (nextP zs (fl1 zs sw p j).2) (sw - 1)).tmod sw, 1 + nextV zs (nextP zs (nextP zs (fl1 zs sw p j).2)) 10)], nextP zs (nextP zs (nextP zs (fl1 zs sw p j).2)))
def fl2 (zs : List Int) (L : List (Int × Int × Int)) (p : Nat) : Nat → List (Int × Int × Int) × Nat
  | 0 => (L, p)
  | j + 1 => bif decide (0 < nextV zs (fl2 zs L p j).2 4) then ((fl2 zs L p j).1 ++ [((j : Int) + 1, nextV zs (nextP zs (fl2 zs L p j).2) ((j : Int) + 1), 1 + nextV zs (nextP zs (nextP zs (fl2 zs L p j).2)) 10)], nextP zs (nextP zs (nextP zs (fl2 zs L p j).2))) else ((fl2 zs L p j).1, nextP zs (fl2 zs L p j).2)
def fl3 (zs : List Int) (n v : Int) (p : Nat) : Nat → List Bool × Nat
  | 0 => ([], p)
  | j + 1 => ((fl3 zs n v p j).1 ++ [nextV zs (fl3 zs n v p j).2 n == v], nextP zs (fl3 zs n v p j).2)
theorem fl1_ok (zs : List Int) (sw : Int) (p : Nat) (hp : p ≤ zs.length) (h2 : 2 ≤ sw) : ∀ j, (fl1 zs sw p j).1.all (lkOk sw) = true ∧ (fl1 zs sw p j).1.length = j ∧ (fl1 zs sw p j).2 ≤ zs.length
  | 0 => ⟨rfl, rfl, hp⟩
  | j + 1 => by
    obtain ⟨i1, i2, i3⟩ := fl1_ok zs sw p hp h2 j
    have q1 := nextP_le zs _ i3
    have q2 := nextP_le zs _ q1
    have q3 := nextP_le zs _ q2
    unfold fl1
    obtain ⟨a1, a2⟩ := nextV_range zs (fl1 zs sw p j).2 sw (by omega)
    obtain ⟨b1, b2⟩ := nextV_range zs (nextP zs (fl1 zs sw p j).2) (sw - 1) (by omega)
    obtain ⟨c1, c2⟩ := nextV_range zs (nextP zs (nextP zs (fl1 zs sw p j).2)) 10 (by decide)
    generalize nextV zs (fl1 zs sw p j).2 sw = a at *
    generalize nextV zs (nextP zs (fl1 zs sw p j).2) (sw - 1) = b at *
    generalize nextV zs (nextP zs (nextP zs (fl1 zs sw p j).2)) 10 = c at *
    refine ⟨?_, by simp [i2], q3⟩
    rw [List.all_append, i1]
    have e : (a + 1 + b).tmod sw = if a + 1 + b < sw then a + 1 + b else a + 1 + b - sw := by
      rw [Int.tmod_eq_emod_of_nonneg (by omega)]
      split
      · rename_i h; exact Int.emod_eq_of_lt (by omega) h
      · rename_i h
        have := Int.emod_eq_of_lt (a := a + 1 + b - sw) (b := sw) (by omega) (by omega)
        rw [← this, Int.sub_emod, Int.emod_self, Int.sub_zero, Int.emod_emod]
    rw [e]
    simp only [List.all_cons, List.all_nil, Bool.and_true, Bool.true_and, lkOk, Bool.and_eq_true, decide_eq_true_eq, Bool.not_eq_true', beq_eq_false_iff_ne]
    split <;> omega
theorem fl2_ok (zs : List Int) (sw : Int) (L : List (Int × Int × Int)) (p : Nat) (hp : p ≤ zs.length) (hL : L.all (lkOk sw) = true) : ∀ j : Nat, (j : Int) + 1 ≤ sw → (fl2 zs L p j).1.all (lkOk sw) = true ∧ (fl2 zs L p j).1.length ≤ L.length + j ∧ (fl2 zs L p j).2 ≤ zs.length
  | 0, _ => ⟨hL, Nat.le_refl _, hp⟩
  | j + 1, h => by
    obtain ⟨i1, i2, i3⟩ := fl2_ok zs sw L p hp hL j (by omega)
    have q1 := nextP_le zs _ i3
    have q2 := nextP_le zs _ q1
    have q3 := nextP_le zs _ q2
    unfold fl2
    obtain ⟨b1, b2⟩ := nextV_range zs (nextP zs (fl2 zs L p j).2) ((j : Int) + 1) (by omega)
    obtain ⟨c1, c2⟩ := nextV_range zs (nextP zs (nextP zs (fl2 zs L p j).2)) 10 (by decide)
    cases decide (0 < nextV zs (fl2 zs L p j).2 4) with
    | false => exact ⟨i1, by simp only [cond_false]; omega, q1⟩
    | true =>
      simp only [cond_true]
      generalize nextV zs (nextP zs (fl2 zs L p j).2) ((j : Int) + 1) = b at *
      generalize nextV zs (nextP zs (nextP zs (fl2 zs L p j).2)) 10 = c at *
      refine ⟨?_, by simp only [List.length_append, List.length_cons, List.length_nil]; omega, q3⟩
      rw [List.all_append, i1]
      simp only [List.all_cons, List.all_nil, Bool.and_true, Bool.true_and, lkOk, Bool.and_eq_true, decide_eq_true_eq, Bool.not_eq_true', beq_eq_false_iff_ne]
      omega
theorem fl3_ok (zs : List Int) (n v : Int) (p : Nat) (hp : p ≤ zs.length) : ∀ j, (fl3 zs n v p j).1.length = j ∧ (fl3 zs n v p j).2 ≤ zs.length
  | 0 => ⟨rfl, hp⟩
  | j + 1 => by
    obtain ⟨i1, i2⟩ := fl3_ok zs n v p hp j
    exact ⟨by simp [fl3, i1], nextP_le zs _ i2⟩
end Go.Proofs.Ytpdiainbcekpiaa
