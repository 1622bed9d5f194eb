/-
  Layer 40: rates, and the sanity check.
-/
import Derived.Test.YtlehkllcbedkhaaPctl
import Derived.Test.YtlehkllcbedkhaaPush
namespace Go.Proofs.Ytlehkllcbedkhaa
open Go.RowKit
set_option maxHeartbeats 400000 in
theorem seconds_any (x : Int) (w : World) : Calls Try.prog 32 #[.int .i64 x] w fun e w' => e = .returned (.bool (decide (1 ≤ x) && decide (x ≤ 86400))) ∧ w = w' := by
  have HW := Lib.hid (fun w => within_any x 1 86400 w)
  generalize (decide (1 ≤ x) && decide (x ≤ 86400)) = q at HW
  go_enter Try.func32, Try.ntmps32
  go_wp2_with fail
  refine (HW.out _).mono ?_
  rintro e w1 ⟨rfl, rfl⟩
  go_wp2
  go_ret
  exact ⟨rfl, rfl⟩
set_option maxHeartbeats 1000000 in
theorem rate_yes (b s : Int) (w : World) (h0 : 0 ≤ b) (h1 : b ≤ 1125899906842624) (h2 : 1 ≤ s) (h3 : s ≤ 86400) : Calls Try.prog 17 #[.int .i64 b, .int .i64 s] w fun e w' => e = .returned (.tuple #[.int .i64 ((8 * b + s * 1000000 - 1) / (s * 1000000)), .int .i64 0]) ∧ w = w' := by
  have HW := Lib.hid (fun w => within_any b 0 1125899906842624 w)
  rw [decide_eq_true h0, decide_eq_true h1] at HW
  have HS := Lib.hid (fun w => seconds_any s w)
  rw [decide_eq_true h2, decide_eq_true h3] at HS
  go_enter Try.func17, Try.ntmps17
  go_wp2_with fail
  refine (HW.out _).mono ?_
  rintro e w1 ⟨rfl, rfl⟩
  go_wp2_with fail
  refine (HS.out _).mono ?_
  rintro e w1 ⟨rfl, rfl⟩
  go_wp2
  go_ret2
  exact ⟨rfl, rfl⟩
def down20 (j : Nat) : List Int := (List.range j).map fun (i : Nat) => (20 - (i : Int) : Int)
theorem down20_snoc (j : Nat) : down20 (j + 1) = down20 j ++ [20 - (j : Int)] := by simp [down20, List.range_succ]
theorem twenty_rank : (sortZ (down20 20)).getD (rankOf 95 20) 0 = 19 := by rw [show sortZ (down20 20) = _ from sort_twenty]; decide
set_option maxHeartbeats 1000000 in
theorem awake40_any (w : World) : Calls Try.prog 8 #[] w fun e w' => e = .returned (.bool true) ∧ Below w.heap.size w w' := by
  have HR := Lib.hid (fun w => rate_yes 37500001 300 w (by omega) (by omega) (by omega) (by omega))
  rw [show (8 * 37500001 + 300 * 1000000 - 1 : Int) / (300 * 1000000) = 2 by decide] at HR
  go_enter Try.func8, Try.ntmps8
  go_wp2_with fail
  go_loopw [1, 2] (fun v k wr => ∃ j : Nat, j ≤ 20 ∧ k = .int .i64 (20 - (j : Int)) ∧ wr.ownsRow w.heap.size 3 1 v j ((down20 j).map (Value.int .i64)) ∧ Below w.heap.size w wr) (fun _ k _ => (intOf k).toNat)
  case atStart => exact ⟨0, by omega, rfl, World.ownsRow_nil _ _ _ _, Below.refl _ _⟩
  case round =>
    obtain ⟨j, hj, rfl, hown, hbel⟩ := hrel
    have hsz := hbel.size
    rcases (show j = 20 ∨ j < 20 by omega) with rfl | hlt
    · obtain ⟨A, c, rfl, k1, k2, k3, k4⟩ := own_open hown
      have HP := Lib.hid (pctl_some 95 A 20 c (down20 20) wr (by omega) (by omega) (by simp [down20]) (by omega) (by omega) (sints_of_lies k4 (by simp [down20]) (by omega)))
      rw [twenty_rank] at HP
      go_wp2_with fail
      refine HP.out.mono ?_
      rintro e w1 ⟨rfl, hb1⟩
      go_wp2_with fail
      refine (HR.out _).mono ?_
      rintro e w2 ⟨rfl, rfl⟩
      go_wp2
      go_ret
      exact ⟨rfl, hbel.trans (hb1.mono hsz)⟩
    · have hk : (20 - (j : Int)) > 0 := by omega
      go_wp2_with (at_builtin; refine push_lit rfl _ _ 22 rfl _ 3 (.int .i64 0) 8 Try.underlying22 infoI rfl (by omega) _ _ _ rfl hown [.int .i64 (20 - (j : Int))] rfl (by simp [Value.oneCell']) (by simp) (by simp; omega) (by omega) ?_)
      intro v3 w3 hown3 hgr3
      have hb3 := lit_below hbel hown hgr3 (Nat.le_refl _) hsz
      go_wp2
      go_roundw
      case rel => exact ⟨j + 1, by omega, by go_num, by rw [down20_snoc]; simpa using hown3, hb3⟩
      case measure => simp [intOf]; omega
end Go.Proofs.Ytlehkllcbedkhaa
