/-
  Layer 39: at least and at most k marked packets; numbers that are not permitted; the sanity check of the statements.
-/
import Derived.Test.YthgfajilpnjihaaCount
import Derived.Test.YthgfajilpnjihaaMill
namespace Go.Proofs.Ythgfajilpnjihaa
open Go.RowKit

set_option maxHeartbeats 400000 in
theorem pool_yes (p s : Nat) (w : World) (h1 : p ≤ 60) (h2 : s ≤ p) : Calls Try.prog 18 #[.int .i64 p, .int .i64 s] w fun e w' => e = .returned (.bool true) ∧ w = w' := by
  go_enter Try.func18, Try.ntmps18
  go_wp2_with fail
  refine (within_yes _ _ _ _ (by omega) (by omega)).mono ?_
  rintro e w1 ⟨rfl, rfl⟩
  go_wp2_with fail
  refine (within_yes _ _ _ _ (by omega) (by omega)).mono ?_
  rintro e w1 ⟨rfl, rfl⟩
  go_wp2
  go_ret
  exact ⟨rfl, rfl⟩
set_option maxHeartbeats 400000 in
theorem pool_no (p s : Int) (w : World) (h1 : p < 0 ∨ 60 < p) : Calls Try.prog 18 #[.int .i64 p, .int .i64 s] w fun e w' => e = .returned (.bool false) ∧ w = w' := by
  go_enter Try.func18, Try.ntmps18
  go_wp2_with fail
  refine (within_no _ _ _ _ h1).mono ?_
  rintro e w1 ⟨rfl, rfl⟩
  clear h1
  go_wp2
  go_ret
  exact ⟨rfl, rfl⟩

set_option maxHeartbeats 1000000 in
theorem atleast_ok (p s m : Nat) (t : Int) (w : World) (h1 : p ≤ 60) (h2 : s ≤ p) (h3 : m ≤ p) : Calls Try.prog 14 #[.int .i64 p, .int .i64 s, .int .i64 m, .int .i64 t] w fun e w' =>
    e = .returned (.tuple #[.int .i64 (many p s m t s), .int .i64 0]) ∧ Below w.heap.size w w' := by
  go_enter Try.func14, Try.ntmps14
  go_wp2_with fail
  refine (pool_yes _ _ _ h1 h2).mono ?_
  rintro e w1 ⟨rfl, rfl⟩
  go_wp2_with fail
  refine (within_yes _ _ _ _ (by omega) (by omega)).mono ?_
  rintro e w1 ⟨rfl, rfl⟩
  go_wp2_with fail
  refine (pascal_any _).mono ?_
  rintro e w1 ⟨rfl, hP, hb⟩
  go_wp2_with fail
  refine (count_any _ p s m _ _ _ h1 h2 h3 hP).mono ?_
  rintro e w2 ⟨rfl, q, rfl⟩
  go_wp2
  go_ret2
  exact ⟨rfl, below_drewN hb _⟩
set_option maxHeartbeats 1000000 in
theorem atmost_ok (p s m : Nat) (t : Int) (w : World) (h1 : p ≤ 60) (h2 : s ≤ p) (h3 : m ≤ p) : Calls Try.prog 16 #[.int .i64 p, .int .i64 s, .int .i64 m, .int .i64 t] w fun e w' =>
    e = .returned (.tuple #[.int .i64 (many p s m 0 t), .int .i64 0]) ∧ Below w.heap.size w w' := by
  go_enter Try.func16, Try.ntmps16
  go_wp2_with fail
  refine (pool_yes _ _ _ h1 h2).mono ?_
  rintro e w1 ⟨rfl, rfl⟩
  go_wp2_with fail
  refine (within_yes _ _ _ _ (by omega) (by omega)).mono ?_
  rintro e w1 ⟨rfl, rfl⟩
  go_wp2_with fail
  refine (pascal_any _).mono ?_
  rintro e w1 ⟨rfl, hP, hb⟩
  go_wp2_with fail
  refine (count_any _ p s m _ _ _ h1 h2 h3 hP).mono ?_
  rintro e w2 ⟨rfl, q, rfl⟩
  go_wp2
  go_ret2
  exact ⟨rfl, below_drewN hb _⟩

set_option maxHeartbeats 1000000 in
theorem awake_any (w : World) : Calls Try.prog 8 #[] w fun e w' => e = .returned (.bool true) ∧ Below w.heap.size w w' := by
  go_enter Try.func8, Try.ntmps8
  go_wp2_with fail
  refine (choose_ok 5 2 _ (by omega) (by omega)).mono ?_
  rintro e w1 ⟨rfl, hb⟩
  go_wp2_with fail
  refine (atleast_ok 4 2 2 1 _ (by omega) (by omega) (by omega)).mono ?_
  rintro e w2 ⟨rfl, hb2⟩
  have e1 : (((C 5 2 : Nat) : Int) == 10) = true := by decide
  have e2 : (many 4 2 2 1 2 == 5) = true := by decide
  go_wp2
  go_ret
  exact ⟨rfl, hb.trans (hb2.mono hb.size)⟩

/-! ### Numbers that are not permitted -/
set_option maxHeartbeats 1000000 in
theorem atleast_no (n k m t : Int) (w : World) (h1 : n < 0 ∨ 60 < n) : Calls Try.prog 14 #[.int .i64 n, .int .i64 k, .int .i64 m, .int .i64 t] w fun e w' => e = .returned (.tuple #[.int .i64 0, .int .i64 1]) ∧ w = w' := by
  go_enter Try.func14, Try.ntmps14
  go_wp2_with fail
  refine (pool_no _ _ _ h1).mono ?_
  rintro e w1 ⟨rfl, rfl⟩
  clear h1
  go_wp2
  go_ret2
  exact ⟨rfl, rfl⟩
set_option maxHeartbeats 1000000 in
theorem atmost_no (n k m t : Int) (w : World) (h1 : n < 0 ∨ 60 < n) : Calls Try.prog 16 #[.int .i64 n, .int .i64 k, .int .i64 m, .int .i64 t] w fun e w' => e = .returned (.tuple #[.int .i64 0, .int .i64 1]) ∧ w = w' := by
  go_enter Try.func16, Try.ntmps16
  go_wp2_with fail
  refine (pool_no _ _ _ h1).mono ?_
  rintro e w1 ⟨rfl, rfl⟩
  clear h1
  go_wp2
  go_ret2
  exact ⟨rfl, rfl⟩
end Go.Proofs.Ythgfajilpnjihaa
