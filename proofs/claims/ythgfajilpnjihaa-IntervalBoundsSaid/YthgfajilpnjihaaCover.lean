/-
  Layer 39: how many sets are covered.
-/
import Derived.Test.YthgfajilpnjihaaCoverMath
namespace Go.Proofs.Ythgfajilpnjihaa
open Go.RowKit

theorem many_one (p s m k : Nat) (hk : k ≤ s) (hm : k ≤ m) : many p s m k k = (term m (p - m) s k : Int) := by
  unfold many span
  rw [show max (k : Int) 0 = k by omega, show min (min (k : Int) s) m = k by omega, show (max (k : Int) ((k : Int) + 1)).toNat = k + 1 by omega, Int.toNat_natCast]
  have e : sumTo (term m (p - m) s) (k + 1) = sumTo (term m (p - m) s) k + term m (p - m) s k := rfl
  omega

set_option maxHeartbeats 2000000 in
theorem cover_ok (p s m al : Nat) (w : World) (h1 : p ≤ 60) (h2 : s ≤ p) (h3 : m ≤ p) (h0 : 1 ≤ al) (h5 : al ≤ 999) :
    Calls Try.prog 7 #[.int .i64 p, .int .i64 s, .int .i64 m, .int .i64 al] w fun e w' => e = .returned (.tuple #[.int .i64 (covered p s m al (s + 1)), .int .i64 (C p s), .int .i64 0]) ∧ Below w.heap.size w w' := by
  have HC := Lib.hid (C_small p s h1)
  have t7 : (p : Int) < 61 := by omega
  have t8 : (s : Int) < 61 := by omega
  go_enter Try.func7, Try.ntmps7
  go_wp2_with fail
  refine (pool_yes _ _ _ h1 h2).mono ?_
  rintro e w1 ⟨rfl, rfl⟩
  go_wp2_with fail
  refine (within_yes _ _ _ _ (by omega) (by omega)).mono ?_
  rintro e w1 ⟨rfl, rfl⟩
  go_wp2_with fail
  refine (alpha_yes _ _ h0 h5).mono ?_
  rintro e w1 ⟨rfl, rfl⟩
  go_wp2_with fail
  refine (pascal_any _).mono ?_
  rintro e w1 ⟨rfl, hP, hb⟩
  go_wp2_with fail
  go_loopw [12, 34] (fun v i wr => ∃ k q : Nat, k ≤ s + 1 ∧ i = .int .i64 k ∧ v = .int .i64 (covered p s m al k) ∧ wr = w1.drewN q) (fun _ i _ => s + 1 - (intOf i).toNat)
  case atStart => exact ⟨0, 0, by omega, rfl, rfl, rfl⟩
  case round =>
    obtain ⟨k, q, hk, rfl, rfl, rfl⟩ := hrel
    have hPq : Part w.heap.size 61 0 (w1.drewN q) := hP
    by_cases hks : (k : Int) < (s : Int) + 1
    · have hks' : k ≤ s := by omega
      go_wp2_with fail
      refine (inner_any _ p s k al _ h1 h2 hks' h5 hPq).mono ?_
      rintro e w2 ⟨lo, hi, rfl, hB, q2, rfl⟩
      by_cases hin : lo ≤ m ∧ m ≤ hi
      · have hkm : k ≤ m := by have := hB.1; omega
        have hmo := many_one p s m k hks' hkm
        have hcy := cov_yes hB hin.1 hin.2
        have hca := covered_all p s m al (k + 1) h3 (by omega)
        have hcs : covered p s m al (k + 1) = covered p s m al k + cov p s m al k := rfl
        rw [hcy] at hcs
        rw [hcs] at hca
        have HMO := Lib.hid hmo; clear hmo
        have HCS := Lib.hid hcs; clear hcs
        have i1 : (lo : Int) ≤ m := by omega
        have i2 : (m : Int) ≤ hi := by omega
        have hCC := HC.out
        clear hB hcy hin
        generalize term m (p - m) s k = tt at HMO HCS hca
        generalize covered p s m al k = cc at HCS hca
        have hsum : (cc : Int) + tt ≤ 1152921504606846976 := by omega
        clear hca hCC
        go_wp2_with fail
        refine (within_yes _ _ _ _ i1 i2).mono ?_
        rintro e w3 ⟨rfl, rfl⟩
        go_wp2_with fail
        refine (count_any _ p s m _ _ _ h1 h2 h3 (show Part _ 61 0 (w1.drewN _) from hP)).mono ?_
        rintro e w3 ⟨rfl, q3, rfl⟩
        rw [HMO.out]
        go_wp2
        go_roundw
        case rel => exact ⟨k + 1, _, by omega, by go_num, congrArg (Value.int .i64) (by rw [HCS.out]; omega), rfl⟩
        case measure => simp [intOf]; omega
      · have hcn := cov_no hB hin
        have hcs : covered p s m al (k + 1) = covered p s m al k := by
          show covered p s m al k + cov p s m al k = _
          omega
        have HCS := Lib.hid hcs
        have i1 : (m : Int) < lo ∨ (hi : Int) < m := by omega
        clear hB hcn hin hcs
        go_wp2_with fail
        refine (within_no _ _ _ _ i1).mono ?_
        rintro e w3 ⟨rfl, rfl⟩
        clear i1
        go_wp2
        go_roundw
        case rel => exact ⟨k + 1, _, by omega, by go_num, congrArg (Value.int .i64) (by rw [HCS.out]), rfl⟩
        case measure => simp [intOf]; omega
    · obtain rfl : k = s + 1 := by omega
      have c1 := tri_cell hP p s (by omega) (by omega)
      go_wp2
      go_quiet (fail)
      go_wp2
      go_ret3
      exact ⟨rfl, below_drewN (below_drewN hb _) _⟩
end Go.Proofs.Ythgfajilpnjihaa
