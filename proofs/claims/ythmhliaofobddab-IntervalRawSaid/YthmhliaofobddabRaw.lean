/-
  IntervalRaw (layer 39): the walk. A pool that is not permitted is an error in every function. No condition on the arguments.
-/
import Derived.Test.YthmhliaofobddabAtLeast
namespace Go.Proofs.Ythmhliaofobddab
open Go.RowKit

set_option maxHeartbeats 1000000 in
theorem bounds_no (n k m t : Int) (w : World) (h1 : n < 0 ∨ 60 < n) : Calls Try.prog 10 #[.int .i64 n, .int .i64 k, .int .i64 m, .int .i64 t] w fun e w' => e = .returned (.tuple #[.int .i64 0, .int .i64 0, .int .i64 1]) ∧ w = w' := by
  go_enter Try.func10, Try.ntmps10
  go_wp2_with fail
  refine (pool_no _ _ _ h1).mono ?_
  rintro e w1 ⟨rfl, rfl⟩
  clear h1
  go_wp2
  go_ret3
  exact ⟨rfl, rfl⟩
set_option maxHeartbeats 1000000 in
theorem cover_no (n k m t : Int) (w : World) (h1 : n < 0 ∨ 60 < n) : Calls Try.prog 11 #[.int .i64 n, .int .i64 k, .int .i64 m, .int .i64 t] w fun e w' => e = .returned (.tuple #[.int .i64 0, .int .i64 0, .int .i64 1]) ∧ w = w' := by
  go_enter Try.func11, Try.ntmps11
  go_wp2_with fail
  refine (pool_no _ _ _ h1).mono ?_
  rintro e w1 ⟨rfl, rfl⟩
  clear h1
  go_wp2
  go_ret3
  exact ⟨rfl, rfl⟩

set_option maxHeartbeats 1000000 in
theorem raw_any (n k m t : Int) (w : World) : Calls Try.prog 4 #[.int .i64 n, .int .i64 k, .int .i64 m, .int .i64 t] w fun e w' => e = .returned (.bool true) ∧ Below w.heap.size w w' := by
  by_cases hin : 0 ≤ n ∧ n ≤ 60
  · obtain ⟨h1, h2⟩ := hin
    go_enter Try.func4, Try.ntmps4
    go_wp2_with fail
    refine (awake_any _).mono ?_
    rintro e w1 ⟨rfl, hb⟩
    go_wp2
    go_ret
    exact ⟨rfl, hb⟩
  have hout : n < 0 ∨ 60 < n := by omega
  have H := Lib.hid hout
  rcases hout with h | h
  · clear hin
    go_enter Try.func4, Try.ntmps4
    go_wp2_with fail
    refine (choose_no _ _ _ H.out).mono ?_
    rintro e w1 ⟨rfl, rfl⟩
    go_wp2_with fail
    refine (atleast_no _ _ _ _ _ H.out).mono ?_
    rintro e w1 ⟨rfl, rfl⟩
    go_wp2_with fail
    refine (atmost_no _ _ _ _ _ H.out).mono ?_
    rintro e w1 ⟨rfl, rfl⟩
    go_wp2_with fail
    refine (bounds_no _ _ _ _ _ H.out).mono ?_
    rintro e w1 ⟨rfl, rfl⟩
    go_wp2_with fail
    refine (cover_no _ _ _ _ _ H.out).mono ?_
    rintro e w1 ⟨rfl, rfl⟩
    go_wp2_with fail
    refine (awake_any _).mono ?_
    rintro e w1 ⟨rfl, hb⟩
    go_wp2
    go_ret
    exact ⟨rfl, hb⟩
  · have h0 : 0 ≤ n := by omega
    clear hin
    go_enter Try.func4, Try.ntmps4
    go_wp2_with fail
    refine (choose_no _ _ _ H.out).mono ?_
    rintro e w1 ⟨rfl, rfl⟩
    go_wp2_with fail
    refine (atleast_no _ _ _ _ _ H.out).mono ?_
    rintro e w1 ⟨rfl, rfl⟩
    go_wp2_with fail
    refine (atmost_no _ _ _ _ _ H.out).mono ?_
    rintro e w1 ⟨rfl, rfl⟩
    go_wp2_with fail
    refine (bounds_no _ _ _ _ _ H.out).mono ?_
    rintro e w1 ⟨rfl, rfl⟩
    go_wp2_with fail
    refine (cover_no _ _ _ _ _ H.out).mono ?_
    rintro e w1 ⟨rfl, rfl⟩
    go_wp2_with fail
    refine (awake_any _).mono ?_
    rintro e w1 ⟨rfl, hb⟩
    go_wp2
    go_ret
    exact ⟨rfl, hb⟩
end Go.Proofs.Ythmhliaofobddab
