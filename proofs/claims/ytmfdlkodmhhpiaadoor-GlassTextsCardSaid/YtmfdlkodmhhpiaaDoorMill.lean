/-
  The contract of Mod: the remainder that is not negative.
-/
import Derived.Test.YtmfdlkodmhhpiaaDoorRows
import Derived.Test.YtmfdlkodmhhpiaaDoorMem
import Derived.ProofKit
namespace Go.Proofs.YtmfdlkodmhhpiaaDoor
open Go.RowKit

theorem tmod_mod (v n : Int) (h : 0 < n) : v.tmod n % n = v % n := by
  rw [Int.tmod_eq_emod]
  split
  · simp
  · rw [show (n.natAbs : Int) = n by omega]; simp
theorem tmod_neg (v n : Int) (h : 0 < n) (hr : v.tmod n < 0) : v.tmod n + n = v % n := by
  have h3 := Int.lt_tmod_of_pos v h
  rw [← tmod_mod v n h, ← Int.add_emod_right, Int.emod_eq_of_lt] <;> omega
theorem tmod_pos (v n : Int) (h : 0 < n) (hr : 0 ≤ v.tmod n) : v.tmod n = v % n := by
  have h3 := Int.tmod_lt_of_pos v h
  rw [← tmod_mod v n h, Int.emod_eq_of_lt] <;> omega
set_option maxHeartbeats 400000 in
theorem mod_any (v n : Int) (w : World) (h0 : 0 < n) (h1 : n ≤ 9223372036854775807) :
    Calls Tryd.prog 7 #[.int .i64 v, .int .i64 n] w fun e w' => e = .returned (.int .i64 (v % n)) ∧ w = w' := by
  have hlo : -n < v.tmod n := Int.lt_tmod_of_pos v h0
  have hhi := Int.tmod_lt_of_pos v h0
  by_cases hr : v.tmod n < 0
  · have h2 := Lib.hid (tmod_neg v n h0 hr)
    have hd : IntKind.i64.wrap (v.tmod n + n) = v.tmod n + n := IntWalk.i64_in _ (by omega)
    go_enter Tryd.func7, Tryd.ntmps7
    go_wp2
    go_ret
    exact ⟨ret_int h2.out, rfl⟩
  · have h2 := Lib.hid (tmod_pos v n h0 (by omega))
    have hr' : 0 ≤ v.tmod n := by omega
    clear hr
    go_enter Tryd.func7, Tryd.ntmps7
    go_wp2
    go_ret
    exact ⟨ret_int h2.out, rfl⟩

end Go.Proofs.YtmfdlkodmhhpiaaDoor
