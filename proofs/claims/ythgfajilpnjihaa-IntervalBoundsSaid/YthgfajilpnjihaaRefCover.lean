/-
  Layer 39, the reference: how many sets are covered.
-/
import Derived.Test.YthgfajilpnjihaaRefBounds
namespace Go.Proofs.Ythgfajilpnjihaa
open Go.RowKit

set_option maxHeartbeats 2000000 in
set_option maxRecDepth 100000 in
theorem rcover_ok (p s m al : Nat) (w : World) (h1 : p ≤ 60) (h2 : s ≤ p) (h3 : m ≤ p) (h0 : 1 ≤ al) (h5 : al ≤ 999) :
    Calls Try.prog 11 #[.int .i64 p, .int .i64 s, .int .i64 m, .int .i64 al] w fun e w' => e = .returned (.tuple #[.int .i64 (covered p s m al (s + 1)), .int .i64 (C p s), .int .i64 0]) ∧ Below w.heap.size w w' := by
  have HC := Lib.hid (C_small p s h1)
  have E0 := Lib.hid (show CI p (s : Int) = C p s by unfold CI; rw [if_neg (by omega)]; simp)
  have d1 : decide ((al : Int) < 1) = false := decide_eq_false (by omega)
  have d2 : decide (1000 ≤ (al : Int)) = false := decide_eq_false (by omega)
  go_enter Try.func11, Try.ntmps11
  go_wp2_with fail
  refine (bad_no p s m _ h1 h2 h3).mono ?_
  rintro e w1 ⟨rfl, rfl⟩
  go_wp2_with fail
  go_loopw [11, 12] (fun v i wr => ∃ k : Nat, k ≤ s + 1 ∧ i = .int .i64 k ∧ v = .int .i64 (covered p s m al k) ∧ Below w.heap.size w wr) (fun _ i _ => s + 1 - (intOf i).toNat)
  case atStart => exact ⟨0, by omega, rfl, rfl, Below.refl _ _⟩
  case round =>
    obtain ⟨k, hk, rfl, rfl, hbel⟩ := hrel
    by_cases hks : (k : Int) ≤ s
    · have hks' : k ≤ s := by omega
      by_cases ho : m < k ∨ p - m < s - k
      · have hcs : covered p s m al (k + 1) = covered p s m al k := by
          show covered p s m al k + cov p s m al k = _
          rw [cov_out ho]; rfl
        have HCS := Lib.hid hcs; clear hcs
        rcases (show (m : Int) < k ∨ ((k : Int) ≤ m ∧ (p : Int) - m < s - k) by omega) with hx | ⟨hx, hy⟩
        · clear ho
          go_wp2
          go_roundw
          case rel => exact ⟨k + 1, by omega, by go_num, congrArg (Value.int .i64) (by rw [HCS.out]), hbel⟩
          case measure => simp [intOf]; omega
        · clear ho
          go_wp2
          go_roundw
          case rel => exact ⟨k + 1, by omega, by go_num, congrArg (Value.int .i64) (by rw [HCS.out]), hbel⟩
          case measure => simp [intOf]; omega
      · have hx : (k : Int) ≤ m := by omega
        have hy : (s : Int) - k ≤ (p : Int) - m := by omega
        clear ho
        go_wp2_with fail
        refine (rbounds_ok p s k al _ h1 h2 hks' h0 h5).mono ?_
        rintro e w2 ⟨lo, hi, rfl, hB, hb2⟩
        have hbel2 := hbel.trans (hb2.mono hbel.size)
        clear hbel hb2
        by_cases hin : lo ≤ m ∧ m ≤ hi
        · have hcy := cov_yes hB hin.1 hin.2
          have hca := covered_all p s m al (k + 1) h3 (by omega)
          have hcs : covered p s m al (k + 1) = covered p s m al k + cov p s m al k := rfl
          rw [hcy] at hcs
          rw [hcs] at hca
          have HCS := Lib.hid hcs; clear hcs
          have i1 : (lo : Int) ≤ m := by omega
          have i2 : (m : Int) ≤ hi := by omega
          have hCC := HC.out
          clear hB hcy hin
          go_wp2_with fail
          refine (exactly_any p s m k _ h1 h2 h3 hks').mono ?_
          rintro e w3 ⟨rfl, hb3⟩
          have hbel3 := hbel2.trans (hb3.mono hbel2.size)
          clear hbel2 hb3
          generalize term m (p - m) s k = tt at HCS hca
          generalize covered p s m al k = cc at HCS hca
          have hsum : (cc : Int) + tt ≤ 1152921504606846976 := by omega
          clear hca hCC
          go_wp2
          go_roundw
          case rel => exact ⟨k + 1, by omega, by go_num, congrArg (Value.int .i64) (by rw [HCS.out]; omega), hbel3⟩
          case measure => simp [intOf]; omega
        · have hcn := cov_no hB hin
          have hcs : covered p s m al (k + 1) = covered p s m al k := by
            show covered p s m al k + cov p s m al k = _
            omega
          have HCS := Lib.hid hcs
          rcases (show (m : Int) < lo ∨ ((lo : Int) ≤ m ∧ (hi : Int) < m) by omega) with i1 | ⟨i1, i2⟩
          all_goals
            clear hB hcn hin hcs
            go_wp2
            go_roundw
            case measure => simp [intOf]; omega
          · exact ⟨k + 1, by omega, by go_num, congrArg (Value.int .i64) (by rw [HCS.out]), hbel2⟩
          · exact ⟨k + 1, by omega, by go_num, congrArg (Value.int .i64) (by rw [HCS.out]), hbel2⟩
    · obtain rfl : k = s + 1 := by omega
      go_wp2_with fail
      refine (rchoose_any p s _ h1).mono ?_
      rintro e w2 ⟨rfl, hb2⟩
      rw [E0.out]
      go_wp2
      go_ret3
      exact ⟨rfl, hbel.trans (hb2.mono hbel.size)⟩
end Go.Proofs.Ythgfajilpnjihaa
