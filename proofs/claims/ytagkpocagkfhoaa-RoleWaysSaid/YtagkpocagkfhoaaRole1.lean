/-
  Roles: what belongs together, and a route's attributes that are all empty but for the mark.
-/
import Derived.Test.YtagkpocagkfhoaaRows
import Derived.Test.YtagkpocagkfhoaaRoleMath
import Derived.Test.YtagkpocagkfhoaaRow2
namespace Go.Proofs.Ytagkpocagkfhoaa
open Go.RowKit
set_option maxHeartbeats 400000 in
theorem isRole_any (n : Int) (w : World) : Calls Try.prog 27 #[.int .i64 n] w fun e w' => e = .returned (.bool (isR n)) ∧ w = w' := by
  unfold isR
  go_enter Try.func27, Try.ntmps27
  by_cases h1 : 0 ≤ n
  · by_cases h2 : n ≤ 4
    all_goals
      go_wp2
      go_ret
      exact ⟨by simp; omega, rfl⟩
  · go_wp2
    go_ret
    exact ⟨by simp; omega, rfl⟩
set_option maxHeartbeats 400000 in
theorem down_any (n : Int) (w : World) : Calls Try.prog 30 #[.int .i64 n] w fun e w' => e = .returned (.bool (downR n)) ∧ w = w' := by
  unfold downR
  go_enter Try.func30, Try.ntmps30
  by_cases h1 : n = 0
  · subst h1
    go_wp2
    go_ret
    exact ⟨rfl, rfl⟩
  · have h0 : (n == 0) = false := by simpa using h1
    go_wp2
    go_ret
    exact ⟨by rw [h0]; rfl, rfl⟩
set_option maxHeartbeats 400000 in
theorem within_any (x lo hi : Int) (w : World) : Calls Try.prog 40 #[.int .i64 x, .int .i64 lo, .int .i64 hi] w fun e w' => e = .returned (.bool (decide (lo ≤ x) && decide (x ≤ hi))) ∧ w = w' := by
  go_enter Try.func40, Try.ntmps40
  by_cases h1 : lo ≤ x
  · have h1' : decide (x ≥ lo) = true := by simpa using h1
    by_cases h2 : x ≤ hi
    all_goals
      go_wp2
      go_ret
      exact ⟨by simp; omega, rfl⟩
  · go_wp2
    go_ret
    exact ⟨by simp; omega, rfl⟩
set_option maxHeartbeats 400000 in
theorem asn_any (x : Int) (w : World) : Calls Try.prog 35 #[.int .i64 x] w fun e w' => e = .returned (.bool (asnR x)) ∧ w = w' := by
  have HW := Lib.hid (fun w => within_any x 1 4294967295 w)
  unfold asnR
  generalize (decide (1 ≤ x) && decide (x ≤ 4294967295)) = q at HW
  go_enter Try.func35, Try.ntmps35
  go_wp2_with fail
  refine (HW.out _).mono ?_
  rintro e w1 ⟨rfl, rfl⟩
  go_wp2
  go_ret
  exact ⟨rfl, rfl⟩
set_option maxHeartbeats 400000 in
theorem inverse_any (n : Int) (w : World) : Calls Try.prog 9 #[.int .i64 n] w fun e w' => e = .returned (.int .i64 (invR n)) ∧ Below w.heap.size w w' := by
  have HI := Lib.hid (fun w => isRole_any n w)
  cases hq : isR n with
  | false =>
    rw [hq] at HI
    rw [invR_bad hq]
    clear hq
    go_enter Try.func9, Try.ntmps9
    go_wp2_with fail
    refine (HI.out _).mono ?_
    rintro e w1 ⟨rfl, rfl⟩
    go_wp2
    go_ret
    exact ⟨rfl, Below.refl _ _⟩
  | true =>
    rw [hq] at HI
    have hb := Box.made w 54 #[.int .i64 3, .int .i64 2, .int .i64 1, .int .i64 0, .int .i64 4]
    rcases isR_cases hq with rfl | rfl | rfl | rfl | rfl
    all_goals
      clear hq
      have hb_0 := hb.at_ 0; have hb_1 := hb.at_ 1; have hb_2 := hb.at_ 2; have hb_3 := hb.at_ 3; have hb_4 := hb.at_ 4
      go_enter Try.func9, Try.ntmps9
      go_wp2_with fail
      refine (HI.out _).mono ?_
      rintro e w1 ⟨rfl, rfl⟩
      go_wp2
      go_ret
      exact ⟨rfl, (by repeat (with_reducible first | exact Below.refl _ _ | assumption | refine Below.drew ?_ | refine below_drewN ?_ _ | refine Below.alloc ?_ (by simp) _ | refine Below.setCell ?_ (by first | (simp; done) | omega | (simp; omega)) _ | refine Below.alloc ?_ (by simp; omega) _))⟩
set_option maxHeartbeats 400000 in
theorem rinverse_any (n : Int) (w : World) : Calls Try.prog 10 #[.int .i64 n] w fun e w' => e = .returned (.int .i64 (invR n)) ∧ w = w' := by
  cases hq : isR n with
  | false =>
    rw [invR_bad hq]
    have := isR_not hq
    have h0 : (n == 0) = false := by simp; omega
    have h1 : (n == 1) = false := by simp; omega
    have h2 : (n == 2) = false := by simp; omega
    have h3 : (n == 3) = false := by simp; omega
    have h4 : (n == 4) = false := by simp; omega
    clear hq this
    go_enter Try.func10, Try.ntmps10
    go_wp2
    go_ret
    exact ⟨rfl, rfl⟩
  | true =>
    rcases isR_cases hq with rfl | rfl | rfl | rfl | rfl
    all_goals
      clear hq
      go_enter Try.func10, Try.ntmps10
      go_wp2
      go_ret
      exact ⟨rfl, rfl⟩
def fitsR (a b : Int) : Bool := isR a && b == invR a
set_option maxHeartbeats 400000 in
theorem fits_any (a b : Int) (w : World) : Calls Try.prog 11 #[.int .i64 a, .int .i64 b] w fun e w' => e = .returned (.bool (fitsR a b)) ∧ Below w.heap.size w w' := by
  have HI := Lib.hid (fun w => isRole_any a w)
  have HV := Lib.hid (fun w => inverse_any a w)
  unfold fitsR
  generalize invR a = v at HV
  cases hq : isR a
  all_goals
    rw [hq] at HI
    clear hq
    go_enter Try.func11, Try.ntmps11
    go_wp2_with fail
    refine (HI.out _).mono ?_
    rintro e w1 ⟨rfl, rfl⟩
  · go_wp2
    go_ret
    exact ⟨rfl, Below.refl _ _⟩
  · go_wp2_with fail
    refine (HV.out _).mono ?_
    rintro e w1 ⟨rfl, hb⟩
    go_wp2
    go_ret
    exact ⟨rfl, hb⟩
set_option maxHeartbeats 400000 in
theorem rfits_any (a b : Int) (w : World) : Calls Try.prog 12 #[.int .i64 a, .int .i64 b] w fun e w' => e = .returned (.bool (fitsR a b)) ∧ w = w' := by
  have HV := Lib.hid (fun w => rinverse_any a w)
  unfold fitsR
  cases hq : isR a with
  | false =>
    rw [invR_bad hq] at HV
    clear hq
    go_enter Try.func12, Try.ntmps12
    go_wp2_with fail
    refine (HV.out _).mono ?_
    rintro e w1 ⟨rfl, rfl⟩
    go_wp2
    go_ret
    exact ⟨rfl, rfl⟩
  | true =>
    have hv : (invR a == -1) = false := by rcases isR_cases hq with rfl | rfl | rfl | rfl | rfl <;> rfl
    have hv2 : (invR a != -1) = true := by rcases isR_cases hq with rfl | rfl | rfl | rfl | rfl <;> rfl
    have hv3 : ¬ invR a = -1 := by simpa using hv
    generalize invR a = v at HV hv hv2 hv3
    clear hq
    go_enter Try.func12, Try.ntmps12
    go_wp2_with fail
    refine (HV.out _).mono ?_
    rintro e w1 ⟨rfl, rfl⟩
    go_wp2_with fail
    refine (HV.out _).mono ?_
    rintro e w1 ⟨rfl, rfl⟩
    go_wp2
    go_ret
    exact ⟨rfl, rfl⟩
end Go.Proofs.Ytagkpocagkfhoaa
