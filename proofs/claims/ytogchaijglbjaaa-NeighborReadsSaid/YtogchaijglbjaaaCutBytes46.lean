/-
  The bytes of an address without V6, by states.
-/
import Derived.Test.YtogchaijglbjaaaCutBytes6
namespace Go.Proofs.Ytogchaijglbjaaa
open Go.RowKit
def by4 (n : Int) (m : Nat) : List Int := (List.range (4 - m)).map fun j => n / 256 ^ (3 - j) % 256
@[simp] theorem by4_length (n : Int) (m : Nat) : (by4 n m).length = 4 - m := by simp [by4]
set_option maxHeartbeats 1000000 in
theorem valid4_any (hi lo : Int) (w : World) : Calls Try.prog 44 #[.agg #[.bool false, .int .u64 hi, .int .u64 lo]] w fun e w' => e = .returned (.bool (decide (hi = 0) && decide (lo ≤ 4294967295))) ∧ Below w.heap.size w w' := by
  have e3 : decide (lo < 4294967296) = decide (lo ≤ 4294967295) := by rw [decide_eq_decide]; omega
  by_cases h1 : hi = 0
  · have e1 : decide (hi = 0) = true := by simpa using h1
    have e2 : (hi == 0) = true := by simpa using h1
    rw [e1]
    go_enter Try.func44, Try.ntmps44
    go_wp2
    go_ret
    refine ⟨?_, (by repeat (with_reducible first | exact Below.refl _ _ | assumption | refine Below.drew ?_ | refine below_drewN ?_ _ | refine Below.alloc ?_ (by simp) _ | refine Below.setCell ?_ (by first | (simp; done) | omega | (simp; omega)) _ | refine Below.alloc ?_ (by simp; omega) _))⟩
    first | rfl | (rw [← e3]; rfl)
  · have e1 : decide (hi = 0) = false := by simpa using h1
    have e2 : (hi == 0) = false := by simpa using h1
    rw [e1]
    go_enter Try.func44, Try.ntmps44
    go_wp2
    go_ret
    refine ⟨?_, (by repeat (with_reducible first | exact Below.refl _ _ | assumption | refine Below.drew ?_ | refine below_drewN ?_ _ | refine Below.alloc ?_ (by simp) _ | refine Below.setCell ?_ (by first | (simp; done) | omega | (simp; omega)) _ | refine Below.alloc ?_ (by simp; omega) _))⟩
    first | rfl | (rw [← e3]; rfl)
theorem valid_v4 (hi lo : Int) : Spec Try.prog 44 [.agg [.val (.bool false), .val (.int .u64 hi), .val (.int .u64 lo)]] [] (.val (.bool (decide (hi = 0) && decide (lo ≤ 4294967295)))) [] :=
  (spec_of_calls (vs := #[.agg #[.bool false, .int .u64 hi, .int .u64 lo]]) fun w => valid4_any hi lo w).of (.agg (vs := [.bool false, .int .u64 hi, .int .u64 lo]) .nil)
set_option maxHeartbeats 1000000 in
theorem rvalid4_any (hi lo : Int) (w : World) : Calls Try.prog 47 #[.agg #[.bool false, .int .u64 hi, .int .u64 lo]] w fun e w' => e = .returned (.bool (decide (hi = 0) && decide (lo ≤ 4294967295))) ∧ Below w.heap.size w w' := by
  have e3 : decide (lo < 4294967296) = decide (lo ≤ 4294967295) := by rw [decide_eq_decide]; omega
  by_cases h1 : hi = 0
  · have e1 : decide (hi = 0) = true := by simpa using h1
    have e2 : (hi == 0) = true := by simpa using h1
    rw [e1]
    go_enter Try.func47, Try.ntmps47
    go_wp2
    go_ret
    refine ⟨?_, (by repeat (with_reducible first | exact Below.refl _ _ | assumption | refine Below.drew ?_ | refine below_drewN ?_ _ | refine Below.alloc ?_ (by simp) _ | refine Below.setCell ?_ (by first | (simp; done) | omega | (simp; omega)) _ | refine Below.alloc ?_ (by simp; omega) _))⟩
    first | rfl | (rw [← e3]; rfl)
  · have e1 : decide (hi = 0) = false := by simpa using h1
    have e2 : (hi == 0) = false := by simpa using h1
    rw [e1]
    go_enter Try.func47, Try.ntmps47
    go_wp2
    go_ret
    refine ⟨?_, (by repeat (with_reducible first | exact Below.refl _ _ | assumption | refine Below.drew ?_ | refine below_drewN ?_ _ | refine Below.alloc ?_ (by simp) _ | refine Below.setCell ?_ (by first | (simp; done) | omega | (simp; omega)) _ | refine Below.alloc ?_ (by simp; omega) _))⟩
    first | rfl | (rw [← e3]; rfl)
theorem rvalid_v4 (hi lo : Int) : Spec Try.prog 47 [.agg [.val (.bool false), .val (.int .u64 hi), .val (.int .u64 lo)]] [] (.val (.bool (decide (hi = 0) && decide (lo ≤ 4294967295)))) [] :=
  (spec_of_calls (vs := #[.agg #[.bool false, .int .u64 hi, .int .u64 lo]]) fun w => rvalid4_any hi lo w).of (.agg (vs := [.bool false, .int .u64 hi, .int .u64 lo]) .nil)
end Go.Proofs.Ytogchaijglbjaaa
