/-
  Layer 2: bounds.Width, prefix.hosts, first, Make, Contains, Bit, Last, Valid.
-/
import Derived.Test.YtboddbheljenhaaGreatDoorG11
import Derived.Test.YtboddbheljenhaaGreatDoorG16
namespace Go.Proofs.YtboddbheljenhaaGreatDoor
open Go.RowKit
set_option maxHeartbeats 4000000 in
set_option maxRecDepth 100000 in
theorem width_spec (v : Bool) (hi lo : Int) : Spec Tryz.prog 42 [.agg [.val (.bool v), .val (.int .u64 hi), .val (.int .u64 lo)]] [] (.val (.int .i64 (wiN v : Int))) [] := by
  cases v <;>
  · refine spec_of_awp Tryz.func42 rfl (Nat.le_of_ble_eq_true rfl) fun ini => ?_
    simp only [Tryz.ntmps42]
    (repeat (first | refine awp_reg_seq rfl fun k => ?_ | refine awp_seq ?_ | refine awp_true rfl ?_ | refine awp_false rfl ?_ | refine awp_skip (?_ : Awp _ _ _ _ _ _) | (refine awp_ret ?_; (apply ends_pure ?_ ?_ ?_ ?_ ?_ (.inl rfl); rotate_left 1; (· (exact res_one rfl rfl)); (· rfl); (· rfl); (· rfl); (· rfl))) | (apply runk0 rfl rfl (opok_assign rfl ?_) ?_; rotate_left 1; (· (conv => (lhs; whnf)))) | (apply runk_fa rfl rfl rfl ?_ rfl rfl ?_ ?_ ?_ ?_; rotate_left 5; (· (conv => (lhs; whnf))); (· (unfold sizeIs; conv => (lhs; whnf; arg 1; whnf))); (· rfl); (· (conv => (lhs; whnf)))) | (((apply runk0 rfl rfl (opok_load rfl ?_ ?_ ?_ ?_) ?_; rotate_left 5; (· (conv => (lhs; whnf))); (· (conv => (lhs; whnf; arg 1; whnf; arg 2; whnf))); (· rfl); (· (conv => (lhs; whnf; arg 1; whnf)))))) | (apply runk_box rfl rfl rfl ?_ ?_ ?_ ?_; rotate_left 2; (· (conv => (lhs; whnf))); (· rfl); (· (conv => (lhs; whnf)))) | refine runk_end (by kernel_rfl) ?_))
theorem shr_ones (N : Nat) (m : Nat) (h : N ≤ m) : ((2 : Int) ^ m - 1) / 2 ^ N = 2 ^ (m - N) - 1 := by
  have hp := two_pos N
  have e : (2 : Int) ^ m = 2 ^ (m - N) * 2 ^ N := by rw [← Int.pow_add]; congr 1; omega
  rw [e, show (2 : Int) ^ (m - N) * 2 ^ N - 1 = (2 ^ N - 1) + (2 ^ (m - N) - 1) * 2 ^ N by rw [Int.sub_mul]; omega, Int.add_mul_ediv_right _ _ (by omega), Int.ediv_eq_zero_of_lt (by omega) (by omega)]
  omega
theorem shr32 (N : Nat) (h : N ≤ 32) : (4294967295 : Int) / 2 ^ min N 64 = 2 ^ (32 - N) - 1 := by
  rw [Nat.min_eq_left (by omega)]; exact shr_ones N 32 h
theorem shr64 (N : Nat) (h : N ≤ 64) : (18446744073709551615 : Int) / 2 ^ min N 64 = 2 ^ (64 - N) - 1 := by
  rw [Nat.min_eq_left (by omega)]; exact shr_ones N 64 h
def clN (v : Bool) (n : Int) : Nat := (min (max n 0) (wiN v : Int)).toNat
set_option maxHeartbeats 4000000 in
set_option maxRecDepth 100000 in
theorem hosts_spec (v : Bool) (hi lo n : Int) : Spec Tryz.prog 51 [.agg [.val (.bool v), .val (.int .u64 hi), .val (.int .u64 lo)], .val (.int .i64 n)] [] (.tuple [.val (.int .u64 (2 ^ khN v (clN v n) - 1)), .val (.int .u64 (2 ^ klN v (clN v n) - 1))]) [] := by
  have w := width_spec v hi lo
  obtain ⟨N, hN, hNw⟩ : ∃ N : Nat, min (max n 0) (wiN v : Int) = (N : Int) ∧ N ≤ wiN v := ⟨(min (max n 0) (wiN v : Int)).toNat, by omega, by omega⟩
  have hc : clN v n = N := by unfold clN; rw [hN]; rfl
  rw [hc]
  refine spec_of_awp Tryz.func51 rfl (Nat.le_of_ble_eq_true rfl) fun ini => ?_
  simp only [Tryz.ntmps51]
  cases v with
  | false =>
    have e := shr32 N hNw
    have r1 : (2 : Int) ^ khN false N - 1 = 0 := by simp [khN]
    have r2 : (2 : Int) ^ klN false N - 1 = 2 ^ (32 - N) - 1 := rfl
    rw [r1, r2]
    clear r1 r2
    generalize (2 : Int) ^ (32 - N) - 1 = R at *
    (repeat (first | refine awp_reg_seq rfl fun k => ?_ | refine awp_seq ?_ | refine awp_true rfl ?_ | (refine awp_ret ?_; (apply ends_pure ?_ ?_ ?_ ?_ ?_ (.inl rfl); rotate_left 1; (· (exact res_two rfl rfl rfl)); (· rfl); (· rfl); (· rfl); (· rfl))) | (apply runk_pure rfl rfl rfl ?_ ?_ ?_ ?_ ?_ ?_ ?_ ?_; rotate_left 6; (· (conv => (lhs; whnf))); (· exact Tryz.func42); (· rfl); (· rfl); (· exact (w)); (· (repeat (first | exact Rens.nil | (refine Rens.cons ?_ ?_; (· ((refine Ren.pureR ?_ rfl; (rfl)))))))); (· rfl)) | (apply runk0 rfl rfl (opok_move rfl ?_) ?_; rotate_left 1; (· (conv => (lhs; whnf)))) | (apply runk0 rfl rfl (opok_assign rfl ?_) ?_; rotate_left 1; (· (conv => (lhs; whnf)))) | (apply runk_fa rfl rfl rfl ?_ rfl rfl ?_ ?_ ?_ ?_; rotate_left 5; (· (conv => (lhs; whnf))); (· (unfold sizeIs; conv => (lhs; whnf; arg 1; whnf))); (· rfl); (· (conv => (lhs; whnf)))) | (((apply runk0 rfl rfl (opok_load rfl ?_ ?_ ?_ ?_) ?_; rotate_left 5; (· (conv => (lhs; whnf))); (· (conv => (lhs; whnf; arg 1; whnf; arg 2; whnf))); (· rfl); (· (conv => (lhs; whnf; arg 1; whnf)))))) | (apply runk0 rfl rfl (opok_loadA rfl ?_ ?_ ?_ ?_ ?_ ?_) ?_; rotate_left 6; (· (conv => (lhs; whnf))); (· (conv => (lhs; whnf; arg 1; whnf; arg 2; whnf))); (· rfl); (· (unfold sizeIs; conv => (lhs; whnf; arg 1; whnf))); (· (conv => (lhs; repeat (whnf; arg 2)))); (· rfl)) | (apply runk0 rfl rfl (opok_bin rfl ?_ ?_ ?_) ?_; rotate_left 3; (· (conv => (lhs; whnf))); (· (conv => (lhs; whnf))); (· (intro w; go_simp; rfl))) | (apply runk0 rfl rfl (opok_un rfl ?_ ?_) ?_; rotate_left 2; (· (conv => (lhs; whnf))); (· (intro w; go_simp; rfl))) | (apply runk0 rfl rfl (opok_min rfl ?_ ?_) ?_; rotate_left 2; (· (conv => (lhs; whnf))); (· (conv => (lhs; whnf)))) | (apply runk0 rfl rfl (opok_max rfl ?_ ?_) ?_; rotate_left 2; (· (conv => (lhs; whnf))); (· (conv => (lhs; whnf)))) | (apply runk_box rfl rfl rfl ?_ ?_ ?_ ?_; rotate_left 2; (· (conv => (lhs; whnf))); (· rfl); (· (conv => (lhs; whnf)))) | refine runk_end (by kernel_rfl) ?_))
  | true =>
    by_cases h64 : N < 64
    · have e := shr64 N (by omega)
      have e' : (18446744073709551615 : Int) / 2 ^ N = 2 ^ (64 - N) - 1 := shr_ones N 64 (by omega)
      have d : decide ((N : Int) < 64) = true := by simp; omega
      have r1 : (2 : Int) ^ khN true N - 1 = 2 ^ (64 - N) - 1 := rfl
      have r2 : (2 : Int) ^ klN true N - 1 = 18446744073709551615 := by unfold klN; rw [if_pos rfl, Nat.min_eq_left (by omega)]; rfl
      rw [r1, r2]
      clear r1 r2
      generalize (2 : Int) ^ (64 - N) - 1 = R at *
      (repeat (first | refine awp_reg_seq rfl fun k => ?_ | refine awp_seq ?_ | refine awp_true rfl ?_ | refine awp_false rfl ?_ | refine awp_skip (?_ : Awp _ _ _ _ _ _) | (refine awp_ret ?_; (apply ends_pure ?_ ?_ ?_ ?_ ?_ (.inl rfl); rotate_left 1; (· (exact res_two rfl rfl rfl)); (· rfl); (· rfl); (· rfl); (· rfl))) | (apply runk_pure rfl rfl rfl ?_ ?_ ?_ ?_ ?_ ?_ ?_ ?_; rotate_left 6; (· (conv => (lhs; whnf))); (· exact Tryz.func42); (· rfl); (· rfl); (· exact (w)); (· (repeat (first | exact Rens.nil | (refine Rens.cons ?_ ?_; (· ((refine Ren.pureR ?_ rfl; (rfl)))))))); (· rfl)) | (apply runk0 rfl rfl (opok_move rfl ?_) ?_; rotate_left 1; (· (conv => (lhs; whnf)))) | (apply runk0 rfl rfl (opok_assign rfl ?_) ?_; rotate_left 1; (· (conv => (lhs; whnf)))) | (apply runk_fa rfl rfl rfl ?_ rfl rfl ?_ ?_ ?_ ?_; rotate_left 5; (· (conv => (lhs; whnf))); (· (unfold sizeIs; conv => (lhs; whnf; arg 1; whnf))); (· rfl); (· (conv => (lhs; whnf)))) | (((apply runk0 rfl rfl (opok_load rfl ?_ ?_ ?_ ?_) ?_; rotate_left 5; (· (conv => (lhs; whnf))); (· (conv => (lhs; whnf; arg 1; whnf; arg 2; whnf))); (· rfl); (· (conv => (lhs; whnf; arg 1; whnf)))))) | (apply runk0 rfl rfl (opok_loadA rfl ?_ ?_ ?_ ?_ ?_ ?_) ?_; rotate_left 6; (· (conv => (lhs; whnf))); (· (conv => (lhs; whnf; arg 1; whnf; arg 2; whnf))); (· rfl); (· (unfold sizeIs; conv => (lhs; whnf; arg 1; whnf))); (· (conv => (lhs; repeat (whnf; arg 2)))); (· rfl)) | (apply runk0 rfl rfl (opok_bin rfl ?_ ?_ ?_) ?_; rotate_left 3; (· (conv => (lhs; whnf))); (· (conv => (lhs; whnf))); (· (intro w; go_simp; rfl))) | (apply runk0 rfl rfl (opok_un rfl ?_ ?_) ?_; rotate_left 2; (· (conv => (lhs; whnf))); (· (intro w; go_simp; rfl))) | (apply runk0 rfl rfl (opok_min rfl ?_ ?_) ?_; rotate_left 2; (· (conv => (lhs; whnf))); (· (conv => (lhs; whnf)))) | (apply runk0 rfl rfl (opok_max rfl ?_ ?_) ?_; rotate_left 2; (· (conv => (lhs; whnf))); (· (conv => (lhs; whnf)))) | (apply runk_box rfl rfl rfl ?_ ?_ ?_ ?_; rotate_left 2; (· (conv => (lhs; whnf))); (· rfl); (· (conv => (lhs; whnf)))) | refine runk_end (by kernel_rfl) ?_))
    · obtain ⟨M, rfl⟩ : ∃ M, N = M + 64 := ⟨N - 64, by omega⟩
      have hM : M ≤ 64 := by have : M + 64 ≤ 128 := hNw; omega
      have e := shr64 M hM
      have e' : (18446744073709551615 : Int) / 2 ^ M = 2 ^ (64 - M) - 1 := shr_ones M 64 hM
      have d : decide ((M : Int) + 64 < 64) = false := by simp; omega
      have wm : IntKind.i64.wrap ((M : Int) + 64 - 64) = (M : Int) := by rw [IntKind.wrap_i64]; omega
      have wm' : IntKind.i64.wrap (M : Int) = (M : Int) := by rw [IntKind.wrap_i64]; omega
      have r1 : (2 : Int) ^ khN true (M + 64) - 1 = 0 := by unfold khN; rw [if_pos rfl, show 64 - (M + 64) = 0 by omega]; rfl
      have r2 : (2 : Int) ^ klN true (M + 64) - 1 = 2 ^ (64 - M) - 1 := by unfold klN; rw [if_pos rfl, show min 64 (128 - (M + 64)) = 64 - M by omega]
      rw [r1, r2]
      clear r1 r2
      generalize (2 : Int) ^ (64 - M) - 1 = R at *
      (repeat (first | refine awp_reg_seq rfl fun k => ?_ | refine awp_seq ?_ | refine awp_false rfl ?_ | refine awp_skip (?_ : Awp _ _ _ _ _ _) | (refine awp_ret ?_; (apply ends_pure ?_ ?_ ?_ ?_ ?_ (.inl rfl); rotate_left 1; (· (exact res_two rfl rfl rfl)); (· rfl); (· rfl); (· rfl); (· rfl))) | (apply runk_pure rfl rfl rfl ?_ ?_ ?_ ?_ ?_ ?_ ?_ ?_; rotate_left 6; (· (conv => (lhs; whnf))); (· exact Tryz.func42); (· rfl); (· rfl); (· exact (w)); (· (repeat (first | exact Rens.nil | (refine Rens.cons ?_ ?_; (· ((refine Ren.pureR ?_ rfl; (rfl)))))))); (· rfl)) | (apply runk0 rfl rfl (opok_move rfl ?_) ?_; rotate_left 1; (· (conv => (lhs; whnf)))) | (apply runk0 rfl rfl (opok_assign rfl ?_) ?_; rotate_left 1; (· (conv => (lhs; whnf)))) | (apply runk_fa rfl rfl rfl ?_ rfl rfl ?_ ?_ ?_ ?_; rotate_left 5; (· (conv => (lhs; whnf))); (· (unfold sizeIs; conv => (lhs; whnf; arg 1; whnf))); (· rfl); (· (conv => (lhs; whnf)))) | (((apply runk0 rfl rfl (opok_load rfl ?_ ?_ ?_ ?_) ?_; rotate_left 5; (· (conv => (lhs; whnf))); (· (conv => (lhs; whnf; arg 1; whnf; arg 2; whnf))); (· rfl); (· (conv => (lhs; whnf; arg 1; whnf)))))) | (apply runk0 rfl rfl (opok_loadA rfl ?_ ?_ ?_ ?_ ?_ ?_) ?_; rotate_left 6; (· (conv => (lhs; whnf))); (· (conv => (lhs; whnf; arg 1; whnf; arg 2; whnf))); (· rfl); (· (unfold sizeIs; conv => (lhs; whnf; arg 1; whnf))); (· (conv => (lhs; repeat (whnf; arg 2)))); (· rfl)) | (apply runk0 rfl rfl (opok_bin rfl ?_ ?_ ?_) ?_; rotate_left 3; (· (conv => (lhs; whnf))); (· (conv => (lhs; whnf))); (· (intro w; go_simp; rfl))) | (apply runk0 rfl rfl (opok_un rfl ?_ ?_) ?_; rotate_left 2; (· (conv => (lhs; whnf))); (· (intro w; go_simp; rfl))) | (apply runk0 rfl rfl (opok_min rfl ?_ ?_) ?_; rotate_left 2; (· (conv => (lhs; whnf))); (· (conv => (lhs; whnf)))) | (apply runk0 rfl rfl (opok_max rfl ?_ ?_) ?_; rotate_left 2; (· (conv => (lhs; whnf))); (· (conv => (lhs; whnf)))) | (apply runk_box rfl rfl rfl ?_ ?_ ?_ ?_; rotate_left 2; (· (conv => (lhs; whnf))); (· rfl); (· (conv => (lhs; whnf)))) | refine runk_end (by kernel_rfl) ?_))
def fstH (v : Bool) (hi n : Int) : Int := cutZ hi (khN v (clN v n))
def fstL (v : Bool) (lo n : Int) : Int := cutZ lo (klN v (clN v n))
def lstH (v : Bool) (hi n : Int) : Int := filZ hi (khN v (clN v n))
def lstL (v : Bool) (lo n : Int) : Int := filZ lo (klN v (clN v n))
theorem khN_le (v : Bool) (N : Nat) : khN v N ≤ 64 := by unfold khN; split <;> omega
theorem klN_le (v : Bool) (N : Nat) : klN v N ≤ 64 := by unfold klN; split <;> omega
set_option maxHeartbeats 4000000 in
set_option maxRecDepth 100000 in
theorem first_spec (v : Bool) (hi lo n : Int) (h0 : 0 ≤ hi) (h1 : hi < 18446744073709551616) (g0 : 0 ≤ lo) (g1 : lo < 18446744073709551616) : Spec Tryz.prog 43 [.agg [.val (.bool v), .val (.int .u64 hi), .val (.int .u64 lo)], .val (.int .i64 n)] [] (.agg [.val (.bool v), .val (.int .u64 (fstH v hi n)), .val (.int .u64 (fstL v lo n))]) [] := by
  have s := hosts_spec v hi lo n
  have e1 := andnot_low hi (khN v (clN v n)) h0 h1 (khN_le _ _)
  have e2 := andnot_low lo (klN v (clN v n)) g0 g1 (klN_le _ _)
  have r1 : fstH v hi n = hi - hi % 2 ^ khN v (clN v n) := rfl
  have r2 : fstL v lo n = lo - lo % 2 ^ klN v (clN v n) := rfl
  rw [← r1] at e1
  rw [← r2] at e2
  clear r1 r2
  generalize fstH v hi n = FH at *
  generalize fstL v lo n = FL at *
  generalize (2 : Int) ^ khN v (clN v n) - 1 = MH at *
  generalize (2 : Int) ^ klN v (clN v n) - 1 = ML at *
  refine spec_of_awp Tryz.func43 rfl (Nat.le_of_ble_eq_true rfl) fun ini => ?_
  simp only [Tryz.ntmps43]
  (repeat (first | refine awp_reg_seq rfl fun k => ?_ | (refine awp_ret ?_; (apply ends_pure ?_ ?_ ?_ ?_ ?_ (.inl rfl); rotate_left 1; (· (exact res_cell rfl rfl rfl rfl rfl)); (· rfl); (· rfl); (· rfl); (· rfl))) | (apply runk_pure rfl rfl rfl ?_ ?_ ?_ ?_ ?_ ?_ ?_ ?_; rotate_left 6; (· (conv => (lhs; whnf))); (· exact Tryz.func51); (· rfl); (· rfl); (· exact (s)); (· (repeat (first | exact Rens.nil | (refine Rens.cons ?_ ?_; (· ((refine Ren.pureR ?_ rfl; (rfl)))))))); (· rfl)) | (apply runk0 rfl rfl (opok_move rfl ?_) ?_; rotate_left 1; (· (conv => (lhs; whnf)))) | (apply runk0 rfl rfl (opok_assign rfl ?_) ?_; rotate_left 1; (· (conv => (lhs; whnf)))) | (apply runk_fa rfl rfl rfl ?_ rfl rfl ?_ ?_ ?_ ?_; rotate_left 5; (· (conv => (lhs; whnf))); (· (unfold sizeIs; conv => (lhs; whnf; arg 1; whnf))); (· rfl); (· (conv => (lhs; whnf)))) | (((apply runk0 rfl rfl (opok_load rfl ?_ ?_ ?_ ?_) ?_; rotate_left 5; (· (conv => (lhs; whnf))); (· (conv => (lhs; whnf; arg 1; whnf; arg 2; whnf))); (· rfl); (· (conv => (lhs; whnf; arg 1; whnf)))))) | (apply runk0 rfl rfl (opok_loadA rfl ?_ ?_ ?_ ?_ ?_ ?_) ?_; rotate_left 6; (· (conv => (lhs; whnf))); (· (conv => (lhs; whnf; arg 1; whnf; arg 2; whnf))); (· rfl); (· (unfold sizeIs; conv => (lhs; whnf; arg 1; whnf))); (· (conv => (lhs; repeat (whnf; arg 2)))); (· rfl)) | (apply runk0 rfl rfl (opok_bin rfl ?_ ?_ ?_) ?_; rotate_left 3; (· (conv => (lhs; whnf))); (· (conv => (lhs; whnf))); (· (intro w; go_simp; rfl))) | (apply runk0 rfl rfl (opok_extract rfl ?_ ?_) ?_; rotate_left 2; (· (conv => (lhs; whnf))); (· (conv => (lhs; whnf; arg 1; whnf)))) | (apply runk0 rfl rfl (opok_build rfl ?_ ?_ ?_ ?_ ?_) ?_; rotate_left 5; (· (conv => (lhs; whnf; arg 1; whnf))); (· (conv => (lhs; whnf; arg 1; repeat (whnf; arg 2)))); (· (conv => (lhs; whnf; arg 1; whnf))); (· (repeat (first | exact PartsOf.nil | (apply PartsOf.cons; (· (conv => (lhs; whnf))))))); (· (conv => (lhs; whnf; arg 1; repeat (whnf; arg 2))))) | (apply runk_box rfl rfl rfl ?_ ?_ ?_ ?_; rotate_left 2; (· (conv => (lhs; whnf))); (· rfl); (· (conv => (lhs; whnf)))) | (apply runk_alloc rfl rfl rfl ?_ ?_ ?_; rotate_left 2; (· (conv => (lhs; whnf; arg 1; whnf))); (· (conv => (lhs; whnf)))) | (apply runk_store rfl rfl rfl ?_ ?_ ?_ ?_ ?_ ?_ ?_ ?_ ?_ ?_ ?_; rotate_left 9; (· (conv => (lhs; whnf))); (· (conv => (lhs; whnf))); (· (conv => (lhs; whnf; arg 1; whnf; arg 2; whnf))); (· rfl); (· (conv => (lhs; whnf))); (· rfl); (· (unfold sizeIs; conv => (lhs; whnf; arg 1; whnf))); (· rfl); (· rfl); (· (conv => (lhs; repeat (whnf; arg 2))))) | refine runk_end (by kernel_rfl) ?_))
theorem clN_in (v : Bool) (n : Int) (h0 : 0 ≤ n) (h1 : n ≤ (wiN v : Int)) : (clN v n : Int) = n := by unfold clN; omega
end Go.Proofs.YtboddbheljenhaaGreatDoor
