/-
  ref01.digit of any byte.
-/
import Derived.Test.YtboddbheljenhaaGreatDoorRf4
import Derived.Test.YtboddbheljenhaaGreatDoorG07
namespace Go.Proofs.YtboddbheljenhaaGreatDoor
open Go.RowKit
def digZ (x : UInt8) : Int := match hexV x with
  | some d => (d : Int)
  | none => -1
set_option maxHeartbeats 16000000 in
set_option maxRecDepth 100000 in
theorem digit_spec (x : UInt8) : Spec Tryz.prog 106 [.val (.int .u8 (x.toNat : Int))] [] (.val (.int .i64 (digZ x))) [] := by
  have h256 := x.toNat_lt
  have hv : digZ x = if 48 ≤ x.toNat ∧ x.toNat ≤ 57 then ((x.toNat - 48 : Nat) : Int) else if 97 ≤ x.toNat ∧ x.toNat ≤ 102 then ((x.toNat - 87 : Nat) : Int) else if 65 ≤ x.toNat ∧ x.toNat ≤ 70 then ((x.toNat - 55 : Nat) : Int) else -1 := by
    unfold digZ hexV
    by_cases c1 : 48 ≤ x.toNat ∧ x.toNat ≤ 57
    · rw [if_pos c1, if_pos c1]
    · rw [if_neg c1, if_neg c1]
      by_cases c2 : 97 ≤ x.toNat ∧ x.toNat ≤ 102
      · rw [if_pos c2, if_pos c2]
      · rw [if_neg c2, if_neg c2]
        by_cases c3 : 65 ≤ x.toNat ∧ x.toNat ≤ 70
        · rw [if_pos c3, if_pos c3]
        · rw [if_neg c3, if_neg c3]
  rw [hv]
  clear hv
  generalize x.toNat = n at *
  refine spec_of_awp Tryz.func106 rfl (Nat.le_of_ble_eq_true rfl) fun ini => ?_
  simp only [Tryz.ntmps106]
  have i1 : IntKind.i64.wrap (-1) = -1 := by decide
  have cs : n < 48 ∨ 48 ≤ n ∧ n ≤ 57 ∨ 57 < n ∧ n < 65 ∨ 65 ≤ n ∧ n ≤ 70 ∨ 70 < n ∧ n < 97 ∨ 97 ≤ n ∧ n ≤ 102 ∨ 102 < n := by omega
  rcases cs with h | h | h | h | h | h | h
  · rw [if_neg (by omega), if_neg (by omega), if_neg (by omega)]
    have f1 : decide ((n : Int) ≥ 48) = false := decide_eq_false (by omega)
    have g1 : decide (48 ≤ (n : Int)) = false := decide_eq_false (by omega)
    have k1 : decide (48 ≤ n) = false := decide_eq_false (by omega)
    have f2 : decide ((n : Int) ≤ 57) = true := decide_eq_true (by omega)
    have k2 : decide (n ≤ 57) = true := decide_eq_true (by omega)
    have f3 : decide ((n : Int) ≥ 97) = false := decide_eq_false (by omega)
    have g3 : decide (97 ≤ (n : Int)) = false := decide_eq_false (by omega)
    have k3 : decide (97 ≤ n) = false := decide_eq_false (by omega)
    have f4 : decide ((n : Int) ≤ 102) = true := decide_eq_true (by omega)
    have k4 : decide (n ≤ 102) = true := decide_eq_true (by omega)
    have f5 : decide ((n : Int) ≥ 65) = false := decide_eq_false (by omega)
    have g5 : decide (65 ≤ (n : Int)) = false := decide_eq_false (by omega)
    have k5 : decide (65 ≤ n) = false := decide_eq_false (by omega)
    have f6 : decide ((n : Int) ≤ 70) = true := decide_eq_true (by omega)
    have k6 : decide (n ≤ 70) = true := decide_eq_true (by omega)
    (repeat (first | refine awp_reg_seq rfl fun k => ?_ | refine awp_seq ?_ | refine awp_false rfl ?_ | refine awp_skip (?_ : Awp _ _ _ _ _ _) | refine awp_block ?_ | (refine awp_ret ?_; (apply ends_pure ?_ ?_ ?_ ?_ ?_ (.inl rfl); rotate_left 1; (· (exact res_one rfl rfl)); (· rfl); (· rfl); (· rfl); (· rfl))) | ((refine runk_off rfl rfl rfl rfl rfl ?_)) | (apply runk0 rfl rfl (opok_move rfl ?_) ?_; rotate_left 1; (· (conv => (lhs; whnf)))) | (apply runk0 rfl rfl (opok_assign rfl ?_) ?_; rotate_left 1; (· (conv => (lhs; whnf)))) | (apply runk0 rfl rfl (opok_bin rfl ?_ ?_ ?_) ?_; rotate_left 3; (· (conv => (lhs; whnf))); (· (conv => (lhs; whnf))); (· (intro w; go_simp; rfl))) | (apply runk0 rfl rfl (opok_pick rfl ?_ ?_) ?_; rotate_left 2; (· (conv => (lhs; whnf))); (· ((conv => (lhs; whnf))))) | refine runk_end (by kernel_rfl) ?_))
  · rw [if_pos (by omega)]
    have f1 : decide ((n : Int) ≥ 48) = true := decide_eq_true (by omega)
    have g1 : decide (48 ≤ (n : Int)) = true := decide_eq_true (by omega)
    have k1 : decide (48 ≤ n) = true := decide_eq_true (by omega)
    have f2 : decide ((n : Int) ≤ 57) = true := decide_eq_true (by omega)
    have k2 : decide (n ≤ 57) = true := decide_eq_true (by omega)
    have f3 : decide ((n : Int) ≥ 97) = false := decide_eq_false (by omega)
    have g3 : decide (97 ≤ (n : Int)) = false := decide_eq_false (by omega)
    have k3 : decide (97 ≤ n) = false := decide_eq_false (by omega)
    have f4 : decide ((n : Int) ≤ 102) = true := decide_eq_true (by omega)
    have k4 : decide (n ≤ 102) = true := decide_eq_true (by omega)
    have f5 : decide ((n : Int) ≥ 65) = false := decide_eq_false (by omega)
    have g5 : decide (65 ≤ (n : Int)) = false := decide_eq_false (by omega)
    have k5 : decide (65 ≤ n) = false := decide_eq_false (by omega)
    have f6 : decide ((n : Int) ≤ 70) = true := decide_eq_true (by omega)
    have k6 : decide (n ≤ 70) = true := decide_eq_true (by omega)
    obtain ⟨D, hD⟩ : ∃ D, n - 48 = D := ⟨_, rfl⟩
    obtain ⟨B, hB⟩ : ∃ B, n - 48 = B := ⟨_, rfl⟩
    rw [hD]
    have wb : IntKind.u8.wrap ((n : Int) - 48) = (B : Int) := by rw [IntKind.wrap_u8']; omega
    have wc : IntKind.i64.wrap (B : Int) = (B : Int) := by rw [IntKind.wrap_i64]; omega
    have eBD : B = D := by omega
    rw [← eBD]
    clear hD eBD
    (repeat (first | refine awp_reg_seq rfl fun k => ?_ | refine awp_seq ?_ | refine awp_true rfl ?_ | refine awp_block ?_ | (refine awp_ret ?_; (apply ends_pure ?_ ?_ ?_ ?_ ?_ (.inl rfl); rotate_left 1; (· (exact res_one rfl rfl)); (· rfl); (· rfl); (· rfl); (· rfl))) | ((refine runk_ung rfl rfl rfl rfl ?_)) | (apply runk0 rfl rfl (opok_move rfl ?_) ?_; rotate_left 1; (· (conv => (lhs; whnf)))) | (apply runk0 rfl rfl (opok_assign rfl ?_) ?_; rotate_left 1; (· (conv => (lhs; whnf)))) | (apply runk0 rfl rfl (opok_bin rfl ?_ ?_ ?_) ?_; rotate_left 3; (· (conv => (lhs; whnf))); (· (conv => (lhs; whnf))); (· (intro w; go_simp; rfl))) | (apply runk0 rfl rfl (opok_conv rfl ?_ ?_) ?_; rotate_left 2; (· (conv => (lhs; whnf))); (· (intro w; go_simp; rfl))) | (apply runk0 rfl rfl (opok_pick rfl ?_ ?_) ?_; rotate_left 2; (· (conv => (lhs; whnf))); (· (exact pick_and))) | refine runk_end (by kernel_rfl) ?_))
  · rw [if_neg (by omega), if_neg (by omega), if_neg (by omega)]
    have f1 : decide ((n : Int) ≥ 48) = true := decide_eq_true (by omega)
    have g1 : decide (48 ≤ (n : Int)) = true := decide_eq_true (by omega)
    have k1 : decide (48 ≤ n) = true := decide_eq_true (by omega)
    have f2 : decide ((n : Int) ≤ 57) = false := decide_eq_false (by omega)
    have k2 : decide (n ≤ 57) = false := decide_eq_false (by omega)
    have f3 : decide ((n : Int) ≥ 97) = false := decide_eq_false (by omega)
    have g3 : decide (97 ≤ (n : Int)) = false := decide_eq_false (by omega)
    have k3 : decide (97 ≤ n) = false := decide_eq_false (by omega)
    have f4 : decide ((n : Int) ≤ 102) = true := decide_eq_true (by omega)
    have k4 : decide (n ≤ 102) = true := decide_eq_true (by omega)
    have f5 : decide ((n : Int) ≥ 65) = false := decide_eq_false (by omega)
    have g5 : decide (65 ≤ (n : Int)) = false := decide_eq_false (by omega)
    have k5 : decide (65 ≤ n) = false := decide_eq_false (by omega)
    have f6 : decide ((n : Int) ≤ 70) = true := decide_eq_true (by omega)
    have k6 : decide (n ≤ 70) = true := decide_eq_true (by omega)
    (repeat (first | refine awp_reg_seq rfl fun k => ?_ | refine awp_seq ?_ | refine awp_false rfl ?_ | refine awp_skip (?_ : Awp _ _ _ _ _ _) | refine awp_block ?_ | (refine awp_ret ?_; (apply ends_pure ?_ ?_ ?_ ?_ ?_ (.inl rfl); rotate_left 1; (· (exact res_one rfl rfl)); (· rfl); (· rfl); (· rfl); (· rfl))) | ((refine runk_ung rfl rfl rfl rfl ?_)) | ((refine runk_off rfl rfl rfl rfl rfl ?_)) | (apply runk0 rfl rfl (opok_move rfl ?_) ?_; rotate_left 1; (· (conv => (lhs; whnf)))) | (apply runk0 rfl rfl (opok_assign rfl ?_) ?_; rotate_left 1; (· (conv => (lhs; whnf)))) | (apply runk0 rfl rfl (opok_bin rfl ?_ ?_ ?_) ?_; rotate_left 3; (· (conv => (lhs; whnf))); (· (conv => (lhs; whnf))); (· (intro w; go_simp; rfl))) | (apply runk0 rfl rfl (opok_pick rfl ?_ ?_) ?_; rotate_left 2; (· (conv => (lhs; whnf))); (· first | exact pick_and | (conv => (lhs; whnf)))) | refine runk_end (by kernel_rfl) ?_))
  · rw [if_neg (by omega), if_neg (by omega), if_pos (by omega)]
    have f1 : decide ((n : Int) ≥ 48) = true := decide_eq_true (by omega)
    have g1 : decide (48 ≤ (n : Int)) = true := decide_eq_true (by omega)
    have k1 : decide (48 ≤ n) = true := decide_eq_true (by omega)
    have f2 : decide ((n : Int) ≤ 57) = false := decide_eq_false (by omega)
    have k2 : decide (n ≤ 57) = false := decide_eq_false (by omega)
    have f3 : decide ((n : Int) ≥ 97) = false := decide_eq_false (by omega)
    have g3 : decide (97 ≤ (n : Int)) = false := decide_eq_false (by omega)
    have k3 : decide (97 ≤ n) = false := decide_eq_false (by omega)
    have f4 : decide ((n : Int) ≤ 102) = true := decide_eq_true (by omega)
    have k4 : decide (n ≤ 102) = true := decide_eq_true (by omega)
    have f5 : decide ((n : Int) ≥ 65) = true := decide_eq_true (by omega)
    have g5 : decide (65 ≤ (n : Int)) = true := decide_eq_true (by omega)
    have k5 : decide (65 ≤ n) = true := decide_eq_true (by omega)
    have f6 : decide ((n : Int) ≤ 70) = true := decide_eq_true (by omega)
    have k6 : decide (n ≤ 70) = true := decide_eq_true (by omega)
    obtain ⟨D, hD⟩ : ∃ D, n - 55 = D := ⟨_, rfl⟩
    obtain ⟨B, hB⟩ : ∃ B, n - 65 = B := ⟨_, rfl⟩
    rw [hD]
    have wb : IntKind.u8.wrap ((n : Int) - 65) = (B : Int) := by rw [IntKind.wrap_u8']; omega
    have wc : IntKind.i64.wrap (B : Int) = (B : Int) := by rw [IntKind.wrap_i64]; omega
    have wd : IntKind.i64.wrap ((B : Int) + 10) = (D : Int) := by rw [IntKind.wrap_i64]; omega
    (repeat (first | refine awp_reg_seq rfl fun k => ?_ | refine awp_seq ?_ | refine awp_true rfl ?_ | refine awp_false rfl ?_ | refine awp_block ?_ | (refine awp_ret ?_; (apply ends_pure ?_ ?_ ?_ ?_ ?_ (.inl rfl); rotate_left 1; (· (exact res_one rfl rfl)); (· rfl); (· rfl); (· rfl); (· rfl))) | ((refine runk_ung rfl rfl rfl rfl ?_)) | ((refine runk_off rfl rfl rfl rfl rfl ?_)) | (apply runk0 rfl rfl (opok_move rfl ?_) ?_; rotate_left 1; (· (conv => (lhs; whnf)))) | (apply runk0 rfl rfl (opok_assign rfl ?_) ?_; rotate_left 1; (· (conv => (lhs; whnf)))) | (apply runk0 rfl rfl (opok_bin rfl ?_ ?_ ?_) ?_; rotate_left 3; (· (conv => (lhs; whnf))); (· (conv => (lhs; whnf))); (· (intro w; go_simp; rfl))) | (apply runk0 rfl rfl (opok_conv rfl ?_ ?_) ?_; rotate_left 2; (· (conv => (lhs; whnf))); (· (intro w; go_simp; rfl))) | (apply runk0 rfl rfl (opok_pick rfl ?_ ?_) ?_; rotate_left 2; (· (conv => (lhs; whnf))); (· first | exact pick_and | (conv => (lhs; whnf)))) | refine runk_end (by kernel_rfl) ?_))
  · rw [if_neg (by omega), if_neg (by omega), if_neg (by omega)]
    have f1 : decide ((n : Int) ≥ 48) = true := decide_eq_true (by omega)
    have g1 : decide (48 ≤ (n : Int)) = true := decide_eq_true (by omega)
    have k1 : decide (48 ≤ n) = true := decide_eq_true (by omega)
    have f2 : decide ((n : Int) ≤ 57) = false := decide_eq_false (by omega)
    have k2 : decide (n ≤ 57) = false := decide_eq_false (by omega)
    have f3 : decide ((n : Int) ≥ 97) = false := decide_eq_false (by omega)
    have g3 : decide (97 ≤ (n : Int)) = false := decide_eq_false (by omega)
    have k3 : decide (97 ≤ n) = false := decide_eq_false (by omega)
    have f4 : decide ((n : Int) ≤ 102) = true := decide_eq_true (by omega)
    have k4 : decide (n ≤ 102) = true := decide_eq_true (by omega)
    have f5 : decide ((n : Int) ≥ 65) = true := decide_eq_true (by omega)
    have g5 : decide (65 ≤ (n : Int)) = true := decide_eq_true (by omega)
    have k5 : decide (65 ≤ n) = true := decide_eq_true (by omega)
    have f6 : decide ((n : Int) ≤ 70) = false := decide_eq_false (by omega)
    have k6 : decide (n ≤ 70) = false := decide_eq_false (by omega)
    (repeat (first | refine awp_reg_seq rfl fun k => ?_ | refine awp_seq ?_ | refine awp_false rfl ?_ | refine awp_skip (?_ : Awp _ _ _ _ _ _) | refine awp_block ?_ | (refine awp_ret ?_; (apply ends_pure ?_ ?_ ?_ ?_ ?_ (.inl rfl); rotate_left 1; (· (exact res_one rfl rfl)); (· rfl); (· rfl); (· rfl); (· rfl))) | ((refine runk_ung rfl rfl rfl rfl ?_)) | ((refine runk_off rfl rfl rfl rfl rfl ?_)) | (apply runk0 rfl rfl (opok_move rfl ?_) ?_; rotate_left 1; (· (conv => (lhs; whnf)))) | (apply runk0 rfl rfl (opok_assign rfl ?_) ?_; rotate_left 1; (· (conv => (lhs; whnf)))) | (apply runk0 rfl rfl (opok_bin rfl ?_ ?_ ?_) ?_; rotate_left 3; (· (conv => (lhs; whnf))); (· (conv => (lhs; whnf))); (· (intro w; go_simp; rfl))) | (apply runk0 rfl rfl (opok_pick rfl ?_ ?_) ?_; rotate_left 2; (· (conv => (lhs; whnf))); (· first | exact pick_and | (conv => (lhs; whnf)))) | refine runk_end (by kernel_rfl) ?_))
  · rw [if_neg (by omega), if_pos (by omega)]
    have f1 : decide ((n : Int) ≥ 48) = true := decide_eq_true (by omega)
    have g1 : decide (48 ≤ (n : Int)) = true := decide_eq_true (by omega)
    have k1 : decide (48 ≤ n) = true := decide_eq_true (by omega)
    have f2 : decide ((n : Int) ≤ 57) = false := decide_eq_false (by omega)
    have k2 : decide (n ≤ 57) = false := decide_eq_false (by omega)
    have f3 : decide ((n : Int) ≥ 97) = true := decide_eq_true (by omega)
    have g3 : decide (97 ≤ (n : Int)) = true := decide_eq_true (by omega)
    have k3 : decide (97 ≤ n) = true := decide_eq_true (by omega)
    have f4 : decide ((n : Int) ≤ 102) = true := decide_eq_true (by omega)
    have k4 : decide (n ≤ 102) = true := decide_eq_true (by omega)
    have f5 : decide ((n : Int) ≥ 65) = true := decide_eq_true (by omega)
    have g5 : decide (65 ≤ (n : Int)) = true := decide_eq_true (by omega)
    have k5 : decide (65 ≤ n) = true := decide_eq_true (by omega)
    have f6 : decide ((n : Int) ≤ 70) = false := decide_eq_false (by omega)
    have k6 : decide (n ≤ 70) = false := decide_eq_false (by omega)
    obtain ⟨D, hD⟩ : ∃ D, n - 87 = D := ⟨_, rfl⟩
    obtain ⟨B, hB⟩ : ∃ B, n - 97 = B := ⟨_, rfl⟩
    rw [hD]
    have wb : IntKind.u8.wrap ((n : Int) - 97) = (B : Int) := by rw [IntKind.wrap_u8']; omega
    have wc : IntKind.i64.wrap (B : Int) = (B : Int) := by rw [IntKind.wrap_i64]; omega
    have wd : IntKind.i64.wrap ((B : Int) + 10) = (D : Int) := by rw [IntKind.wrap_i64]; omega
    (repeat (first | refine awp_reg_seq rfl fun k => ?_ | refine awp_seq ?_ | refine awp_true rfl ?_ | refine awp_false rfl ?_ | refine awp_block ?_ | (refine awp_ret ?_; (apply ends_pure ?_ ?_ ?_ ?_ ?_ (.inl rfl); rotate_left 1; (· (exact res_one rfl rfl)); (· rfl); (· rfl); (· rfl); (· rfl))) | ((refine runk_ung rfl rfl rfl rfl ?_)) | (apply runk0 rfl rfl (opok_move rfl ?_) ?_; rotate_left 1; (· (conv => (lhs; whnf)))) | (apply runk0 rfl rfl (opok_assign rfl ?_) ?_; rotate_left 1; (· (conv => (lhs; whnf)))) | (apply runk0 rfl rfl (opok_bin rfl ?_ ?_ ?_) ?_; rotate_left 3; (· (conv => (lhs; whnf))); (· (conv => (lhs; whnf))); (· (intro w; go_simp; rfl))) | (apply runk0 rfl rfl (opok_conv rfl ?_ ?_) ?_; rotate_left 2; (· (conv => (lhs; whnf))); (· (intro w; go_simp; rfl))) | (apply runk0 rfl rfl (opok_pick rfl ?_ ?_) ?_; rotate_left 2; (· (conv => (lhs; whnf))); (· (exact pick_and))) | refine runk_end (by kernel_rfl) ?_))
  · rw [if_neg (by omega), if_neg (by omega), if_neg (by omega)]
    have f1 : decide ((n : Int) ≥ 48) = true := decide_eq_true (by omega)
    have g1 : decide (48 ≤ (n : Int)) = true := decide_eq_true (by omega)
    have k1 : decide (48 ≤ n) = true := decide_eq_true (by omega)
    have f2 : decide ((n : Int) ≤ 57) = false := decide_eq_false (by omega)
    have k2 : decide (n ≤ 57) = false := decide_eq_false (by omega)
    have f3 : decide ((n : Int) ≥ 97) = true := decide_eq_true (by omega)
    have g3 : decide (97 ≤ (n : Int)) = true := decide_eq_true (by omega)
    have k3 : decide (97 ≤ n) = true := decide_eq_true (by omega)
    have f4 : decide ((n : Int) ≤ 102) = false := decide_eq_false (by omega)
    have k4 : decide (n ≤ 102) = false := decide_eq_false (by omega)
    have f5 : decide ((n : Int) ≥ 65) = true := decide_eq_true (by omega)
    have g5 : decide (65 ≤ (n : Int)) = true := decide_eq_true (by omega)
    have k5 : decide (65 ≤ n) = true := decide_eq_true (by omega)
    have f6 : decide ((n : Int) ≤ 70) = false := decide_eq_false (by omega)
    have k6 : decide (n ≤ 70) = false := decide_eq_false (by omega)
    (repeat (first | refine awp_reg_seq rfl fun k => ?_ | refine awp_seq ?_ | refine awp_false rfl ?_ | refine awp_skip (?_ : Awp _ _ _ _ _ _) | refine awp_block ?_ | (refine awp_ret ?_; (apply ends_pure ?_ ?_ ?_ ?_ ?_ (.inl rfl); rotate_left 1; (· (exact res_one rfl rfl)); (· rfl); (· rfl); (· rfl); (· rfl))) | ((refine runk_ung rfl rfl rfl rfl ?_)) | (apply runk0 rfl rfl (opok_move rfl ?_) ?_; rotate_left 1; (· (conv => (lhs; whnf)))) | (apply runk0 rfl rfl (opok_assign rfl ?_) ?_; rotate_left 1; (· (conv => (lhs; whnf)))) | (apply runk0 rfl rfl (opok_bin rfl ?_ ?_ ?_) ?_; rotate_left 3; (· (conv => (lhs; whnf))); (· (conv => (lhs; whnf))); (· (intro w; go_simp; rfl))) | (apply runk0 rfl rfl (opok_pick rfl ?_ ?_) ?_; rotate_left 2; (· (conv => (lhs; whnf))); (· (exact pick_and))) | refine runk_end (by kernel_rfl) ?_))
end Go.Proofs.YtboddbheljenhaaGreatDoor
