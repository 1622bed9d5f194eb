/-
  SampleRatio (layer 37): the walk. The sampled packets are at equal distances, and their number times the ratio differs from the number of packets by less than the ratio. No condition on the arguments.
-/
import Derived.Test.YthmhliaofobddaaSampleAwake
namespace Go.Proofs.Ythmhliaofobddaa
open Go.RowKit

theorem cnt_mul (n r f : Int) (hr : 0 < r) (h0 : 0 ≤ f) (h1 : f < r) (h2 : 0 ≤ n) : -r < (cnt n r f : Int) * r - n ∧ (cnt n r f : Int) * r - n < r := by
  unfold cnt
  by_cases h : f < n
  · rw [if_pos h]
    have h3 : 0 ≤ (n - 1 - f) / r := Int.ediv_nonneg (by omega) (by omega)
    have h4 := Int.ediv_mul_le (n - 1 - f) (b := r) (by omega)
    have h5 := Int.lt_ediv_add_one_mul_self (n - 1 - f) hr
    rw [Int.toNat_of_nonneg (by omega)]
    rw [Int.add_mul] at h5 ⊢
    omega
  · rw [if_neg h]; simp; omega
theorem cnt_le (n r f : Int) (h0 : 0 ≤ f) (m : Nat) (hm : n ≤ m) : cnt n r f ≤ m := by
  unfold cnt
  by_cases h : f < n
  · rw [if_pos h]
    have h3 : (n - 1 - f) / r ≤ n - 1 - f := Int.ediv_le_self _ (by omega)
    omega
  · rw [if_neg h]; omega

set_option maxHeartbeats 2000000 in
theorem ratio_any (a0 a1 a2 : Int) (w : World) : Calls Try.prog 3 #[.int .i64 a0, .int .i64 a1, .int .i64 a2] w fun e w' => e = .returned (.bool true) ∧ Below w.heap.size w w' := by
  go_enter Try.func3, Try.ntmps3
  go_wp2_with fail
  refine (mod_any _ _ _ (by omega) (by omega)).mono ?_
  rintro e w1 ⟨rfl, rfl⟩
  have hr0 := Int.emod_nonneg a1 (show (60 : Int) ≠ 0 by omega)
  have hr1 := Int.emod_lt_of_pos a1 (show (0 : Int) < 60 by omega)
  obtain ⟨r, hr⟩ : ∃ r : Int, 1 + a1 % 60 = r := ⟨_, rfl⟩
  have hr2 : 1 ≤ r := by omega
  have hr3 : r ≤ 60 := by omega
  go_wp2_with fail
  refine (mod_any _ _ _ (by omega) (by omega)).mono ?_
  rintro e w1 ⟨rfl, rfl⟩
  have hn0 := Int.emod_nonneg a0 (show (900 : Int) ≠ 0 by omega)
  have hn1 := Int.emod_lt_of_pos a0 (show (0 : Int) < 900 by omega)
  generalize a0 % 900 = n at hn0 hn1
  go_wp2_with fail
  clear hr hr0 hr1
  refine (mod_any _ _ _ (by omega) (by omega)).mono ?_
  rintro e w1 ⟨rfl, rfl⟩
  have hf0 := Int.emod_nonneg a2 (show r ≠ 0 by omega)
  have hf1 := Int.emod_lt_of_pos a2 (show 0 < r by omega)
  generalize a2 % r = f at hf0 hf1
  go_wp2_with fail
  have hc : cnt n r f ≤ 900 := cnt_le n r f hf0 900 (by omega)
  refine (pick_ok n r f _ hn0 (by omega) hr2 (by omega) hf0 (by omega) (by omega)).mono ?_
  rintro e w1 ⟨v, rfl, hown, hb⟩
  obtain ⟨A, c, rfl, hcc, hcm, hl, hlies⟩ := own_open hown
  unfold maxLen at hcm
  have hall : ∀ k : Nat, k < cnt n r f → 0 ≤ (picks n r f).getD k 0 ∧ (picks n r f).getD k 0 < n ∧ (0 < k → (picks n r f).getD k 0 - (picks n r f).getD (k - 1) 0 = r) := by
    intro k hk
    have h1 := (cnt_iff n r f k (by omega)).2 hk
    have h2 : 0 ≤ (k : Int) * r := Int.mul_nonneg (by omega) (by omega)
    refine ⟨by rw [picks_at n r f k hk]; omega, by rw [picks_at n r f k hk]; exact h1, fun h0 => ?_⟩
    rw [picks_at n r f k hk, picks_at n r f (k - 1) (by omega)]
    have h3 : ((k : Int)) * r = ((k - 1 : Nat) : Int) * r + r := by
      rw [show (k : Int) = ((k - 1 : Nat) : Int) + 1 by omega, Int.add_mul]; omega
    omega
  have hm := cnt_mul n r f (by omega) hf0 hf1 hn0
  have hpl : (picks n r f).length = cnt n r f := picks_len n r f
  have HA := Lib.hid hall; clear hall
  have HP := Lib.hid hpl; clear hpl
  clear hown hl
  generalize picks n r f = ps at hlies HA HP
  generalize cnt n r f = m at hcc HA HP hm hc
  go_wp2_with fail
  go_loop [32] (fun i => ∃ k : Nat, k ≤ m ∧ i = .int .i64 k) (fun i => m - (intOf i).toNat)
  case atStart => exact ⟨0, Nat.zero_le _, rfl⟩
  case round =>
    obtain ⟨k, hk, rfl⟩ := hrel
    by_cases hlt : k < m
    · obtain ⟨a, rfl, ha, hc0⟩ := hlies.int (k := k) (by rw [HP.out]; exact hlt)
      obtain ⟨f1, f2, f3⟩ := HA.out k hlt
      by_cases h0 : 0 < k
      · obtain ⟨a', e', -, hc1⟩ := hlies.int (k := k - 1) (by rw [HP.out]; omega)
        injection e' with e'
        subst e'
        have f4 := f3 h0
        clear f3
        have t1 : ((k : Int) - 1).toNat = k - 1 := by omega
        generalize ps.getD k 0 = x at f1 f2 f4 hc0
        generalize ps.getD (k - 1) 0 = y at f4 hc1
        go_wp2_with fail
        go_round
        case rel => exact ⟨k + 1, by omega, by go_num⟩
        case measure => simp [intOf]; omega
      · obtain rfl : k = 0 := by omega
        clear f3
        generalize ps.getD 0 0 = x at f1 f2 hc0
        have hc2 : w1.cell? a = some (.int .i64 x) := by simpa [Addr.add] using hc0
        go_wp2_with fail
        go_round
        case rel => exact ⟨1, by omega, by go_num⟩
        case measure => simp [intOf]; omega
    · obtain rfl : k = m := by omega
      obtain ⟨m1, m2⟩ := hm
      have m3 : (k : Int) * r < 1000000 := by omega
      have m4 : 0 ≤ (k : Int) * r := Int.mul_nonneg (by omega) (by omega)
      go_wp2_with fail
      refine (awake_any _).mono ?_
      rintro e w2 ⟨rfl, hb2⟩
      go_wp2
      go_ret
      exact ⟨rfl, hb.trans (hb2.mono hb.size)⟩
end Go.Proofs.Ythmhliaofobddaa
