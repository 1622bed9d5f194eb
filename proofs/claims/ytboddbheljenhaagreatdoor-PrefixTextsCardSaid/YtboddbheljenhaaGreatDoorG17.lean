/-
  Layer 2: bounds.Width, prefix.hosts, first, Make, Contains, Bit, Last, Valid.
-/
import Derived.Test.YtboddbheljenhaaGreatDoorG11
import Derived.Test.YtboddbheljenhaaGreatDoorG16
import Derived.Test.YtboddbheljenhaaGreatDoorG15
namespace Go.Proofs.YtboddbheljenhaaGreatDoor
open Go.RowKit
set_option maxHeartbeats 4000000 in
set_option maxRecDepth 100000 in
theorem width_spec (v : Bool) (hi lo : Int) : Spec Tryz.prog 42 [.agg [.val (.bool v), .val (.int .u64 hi), .val (.int .u64 lo)]] [] (.val (.int .i64 (wiN v : Int))) [] := by
  cases v <;>
  · refine spec_of_awp Tryz.func42 rfl (Nat.le_of_ble_eq_true rfl) fun ini => ?_
    simp only [Tryz.ntmps42]
    (repeat (first | refine awp_reg_seq rfl fun k => ?_ | refine awp_seq ?_ | refine awp_true rfl ?_ | refine awp_false rfl ?_ | refine awp_skip (?_ : Awp _ _ _ _ _ _) | (refine awp_ret ?_; (apply ends_pure ?_ ?_ ?_ ?_ ?_ (.inl rfl); rotate_left 1; (· (exact res_one rfl rfl)); (· rfl); (· rfl); (· rfl); (· rfl))) | (apply runk0 rfl rfl (opok_assign rfl ?_) ?_; rotate_left 1; (· (conv => (lhs; whnf)))) | (apply runk_fa rfl rfl rfl ?_ rfl rfl ?_ ?_ ?_ ?_; rotate_left 5; (· (conv => (lhs; whnf))); (· (unfold sizeIs; conv => (lhs; whnf; arg 1; whnf))); (· rfl); (· (conv => (lhs; whnf)))) | (((apply runk0 rfl rfl (opok_load rfl ?_ ?_ ?_ ?_) ?_; rotate_left 5; (· (conv => (lhs; whnf))); (· (conv => (lhs; whnf; arg 1; whnf; arg 2; whnf))); (· rfl); (· (conv => (lhs; whnf; arg 1; whnf)))))) | (apply runk_box rfl rfl rfl ?_ ?_ ?_ ?_; rotate_left 2; (· (conv => (lhs; whnf))); (· rfl); (· (conv => (lhs; whnf)))) | refine runk_end (by kernel_rfl) ?_))
theorem shr_ones (N : Nat) (m : Nat) (h : N ≤ m) : ((2 : Int) ^ m - 1) / 2 ^ N = 2 ^ (m - N) - 1 := by
  have hp := two_pos N
  have e : (2 : Int) ^ m = 2 ^ (m - N) * 2 ^ N := by rw [← Int.pow_add]; congr 1; omega
  rw [e, show (2 : Int) ^ (m - N) * 2 ^ N - 1 = (2 ^ N - 1) + (2 ^ (m - N) - 1) * 2 ^ N by rw [Int.sub_mul]; omega, Int.add_mul_ediv_right _ _ (by omega), Int.ediv_eq_zero_of_lt (by omega) (by omega)]
  omega
theorem shr32 (N : Nat) (h : N ≤ 32) : (4294967295 : Int) / 2 ^ min N 64 = 2 ^ (32 - N) - 1 := by
  rw [Nat.min_eq_left (by omega)]; exact shr_ones N 32 h
theorem shr64 (N : Nat) (h : N ≤ 64) : (18446744073709551615 : Int) / 2 ^ min N 64 = 2 ^ (64 - N) - 1 := by
  rw [Nat.min_eq_left (by omega)]; exact shr_ones N 64 h
def clN (v : Bool) (n : Int) : Nat := (min (max n 0) (wiN v : Int)).toNat
set_option maxHeartbeats 4000000 in
set_option maxRecDepth 100000 in
theorem hosts_spec (v : Bool) (hi lo n : Int) : Spec Tryz.prog 51 [.agg [.val (.bool v), .val (.int .u64 hi), .val (.int .u64 lo)], .val (.int .i64 n)] [] (.tuple [.val (.int .u64 (2 ^ khN v (clN v n) - 1)), .val (.int .u64 (2 ^ klN v (clN v n) - 1))]) [] := by
  have w := width_spec v hi lo
  obtain ⟨N, hN, hNw⟩ : ∃ N : Nat, min (max n 0) (wiN v : Int) = (N : Int) ∧ N ≤ wiN v := ⟨(min (max n 0) (wiN v : Int)).toNat, by omega, by omega⟩
  have hc : clN v n = N := by unfold clN; rw [hN]; rfl
  rw [hc]
  refine spec_of_awp Tryz.func51 rfl (Nat.le_of_ble_eq_true rfl) fun ini => ?_
  simp only [Tryz.ntmps51]
  cases v with
  | false =>
    have e := shr32 N hNw
    have r1 : (2 : Int) ^ khN false N - 1 = 0 := by simp [khN]
    have r2 : (2 : Int) ^ klN false N - 1 = 2 ^ (32 - N) - 1 := rfl
    rw [r1, r2]
    clear r1 r2
    generalize (2 : Int) ^ (32 - N) - 1 = R at *
    (repeat (first | refine awp_reg_seq rfl fun k => ?_ | refine awp_seq ?_ | refine awp_true rfl ?_ | (refine awp_ret ?_; (apply ends_pure ?_ ?_ ?_ ?_ ?_ (.inl rfl); rotate_left 1; (· (exact res_two rfl rfl rfl)); (· rfl); (· rfl); (· rfl); (· rfl))) | (apply runk_pure rfl rfl rfl ?_ ?_ ?_ ?_ ?_ ?_ ?_ ?_; rotate_left 6; (· (conv => (lhs; whnf))); (· exact Tryz.func42); (· rfl); (· rfl); (· exact (w)); (· (repeat (first | exact Rens.nil | (refine Rens.cons ?_ ?_; (· ((refine Ren.pureR ?_ rfl; (rfl)))))))); (· rfl)) | (apply runk0 rfl rfl (opok_move rfl ?_) ?_; rotate_left 1; (· (conv => (lhs; whnf)))) | (apply runk0 rfl rfl (opok_assign rfl ?_) ?_; rotate_left 1; (· (conv => (lhs; whnf)))) | (apply runk_fa rfl rfl rfl ?_ rfl rfl ?_ ?_ ?_ ?_; rotate_left 5; (· (conv => (lhs; whnf))); (· (unfold sizeIs; conv => (lhs; whnf; arg 1; whnf))); (· rfl); (· (conv => (lhs; whnf)))) | (((apply runk0 rfl rfl (opok_load rfl ?_ ?_ ?_ ?_) ?_; rotate_left 5; (· (conv => (lhs; whnf))); (· (conv => (lhs; whnf; arg 1; whnf; arg 2; whnf))); (· rfl); (· (conv => (lhs; whnf; arg 1; whnf)))))) | (apply runk0 rfl rfl (opok_loadA rfl ?_ ?_ ?_ ?_ ?_ ?_) ?_; rotate_left 6; (· (conv => (lhs; whnf))); (· (conv => (lhs; whnf; arg 1; whnf; arg 2; whnf))); (· rfl); (· (unfold sizeIs; conv => (lhs; whnf; arg 1; whnf))); (· (conv => (lhs; repeat (whnf; arg 2)))); (· rfl)) | (apply runk0 rfl rfl (opok_bin rfl ?_ ?_ ?_) ?_; rotate_left 3; (· (conv => (lhs; whnf))); (· (conv => (lhs; whnf))); (· (intro w; go_simp; rfl))) | (apply runk0 rfl rfl (opok_un rfl ?_ ?_) ?_; rotate_left 2; (· (conv => (lhs; whnf))); (· (intro w; go_simp; rfl))) | (apply runk0 rfl rfl (opok_min rfl ?_ ?_) ?_; rotate_left 2; (· (conv => (lhs; whnf))); (· (conv => (lhs; whnf)))) | (apply runk0 rfl rfl (opok_max rfl ?_ ?_) ?_; rotate_left 2; (· (conv => (lhs; whnf))); (· (conv => (lhs; whnf)))) | (apply runk_box rfl rfl rfl ?_ ?_ ?_ ?_; rotate_left 2; (· (conv => (lhs; whnf))); (· rfl); (· (conv => (lhs; whnf)))) | refine runk_end (by kernel_rfl) ?_))
  | true =>
    by_cases h64 : N < 64
    · have e := shr64 N (by omega)
      have e' : (18446744073709551615 : Int) / 2 ^ N = 2 ^ (64 - N) - 1 := shr_ones N 64 (by omega)
      have d : decide ((N : Int) < 64) = true := by simp; omega
      have r1 : (2 : Int) ^ khN true N - 1 = 2 ^ (64 - N) - 1 := rfl
      have r2 : (2 : Int) ^ klN true N - 1 = 18446744073709551615 := by unfold klN; rw [if_pos rfl, Nat.min_eq_left (by omega)]; rfl
      rw [r1, r2]
      clear r1 r2
      generalize (2 : Int) ^ (64 - N) - 1 = R at *
      (repeat (first | refine awp_reg_seq rfl fun k => ?_ | refine awp_seq ?_ | refine awp_true rfl ?_ | refine awp_false rfl ?_ | refine awp_skip (?_ : Awp _ _ _ _ _ _) | (refine awp_ret ?_; (apply ends_pure ?_ ?_ ?_ ?_ ?_ (.inl rfl); rotate_left 1; (· (exact res_two rfl rfl rfl)); (· rfl); (· rfl); (· rfl); (· rfl))) | (apply runk_pure rfl rfl rfl ?_ ?_ ?_ ?_ ?_ ?_ ?_ ?_; rotate_left 6; (· (conv => (lhs; whnf))); (· exact Tryz.func42); (· rfl); (· rfl); (· exact (w)); (· (repeat (first | exact Rens.nil | (refine Rens.cons ?_ ?_; (· ((refine Ren.pureR ?_ rfl; (rfl)))))))); (· rfl)) | (apply runk0 rfl rfl (opok_move rfl ?_) ?_; rotate_left 1; (· (conv => (lhs; whnf)))) | (apply runk0 rfl rfl (opok_assign rfl ?_) ?_; rotate_left 1; (· (conv => (lhs; whnf)))) | (apply runk_fa rfl rfl rfl ?_ rfl rfl ?_ ?_ ?_ ?_; rotate_left 5; (· (conv => (lhs; whnf))); (· (unfold sizeIs; conv => (lhs; whnf; arg 1; whnf))); (· rfl); (· (conv => (lhs; whnf)))) | (((apply runk0 rfl rfl (opok_load rfl ?_ ?_ ?_ ?_) ?_; rotate_left 5; (· (conv => (lhs; whnf))); (· (conv => (lhs; whnf; arg 1; whnf; arg 2; whnf))); (· rfl); (· (conv => (lhs; whnf; arg 1; whnf)))))) | (apply runk0 rfl rfl (opok_loadA rfl ?_ ?_ ?_ ?_ ?_ ?_) ?_; rotate_left 6; (· (conv => (lhs; whnf))); (· (conv => (lhs; whnf; arg 1; whnf; arg 2; whnf))); (· rfl); (· (unfold sizeIs; conv => (lhs; whnf; arg 1; whnf))); (· (conv => (lhs; repeat (whnf; arg 2)))); (· rfl)) | (apply runk0 rfl rfl (opok_bin rfl ?_ ?_ ?_) ?_; rotate_left 3; (· (conv => (lhs; whnf))); (· (conv => (lhs; whnf))); (· (intro w; go_simp; rfl))) | (apply runk0 rfl rfl (opok_un rfl ?_ ?_) ?_; rotate_left 2; (· (conv => (lhs; whnf))); (· (intro w; go_simp; rfl))) | (apply runk0 rfl rfl (opok_min rfl ?_ ?_) ?_; rotate_left 2; (· (conv => (lhs; whnf))); (· (conv => (lhs; whnf)))) | (apply runk0 rfl rfl (opok_max rfl ?_ ?_) ?_; rotate_left 2; (· (conv => (lhs; whnf))); (· (conv => (lhs; whnf)))) | (apply runk_box rfl rfl rfl ?_ ?_ ?_ ?_; rotate_left 2; (· (conv => (lhs; whnf))); (· rfl); (· (conv => (lhs; whnf)))) | refine runk_end (by kernel_rfl) ?_))
    · obtain ⟨M, rfl⟩ : ∃ M, N = M + 64 := ⟨N - 64, by omega⟩
      have hM : M ≤ 64 := by have : M + 64 ≤ 128 := hNw; omega
      have e := shr64 M hM
      have e' : (18446744073709551615 : Int) / 2 ^ M = 2 ^ (64 - M) - 1 := shr_ones M 64 hM
      have d : decide ((M : Int) + 64 < 64) = false := by simp; omega
      have wm : IntKind.i64.wrap ((M : Int) + 64 - 64) = (M : Int) := by rw [IntKind.wrap_i64]; omega
      have wm' : IntKind.i64.wrap (M : Int) = (M : Int) := by rw [IntKind.wrap_i64]; omega
      have r1 : (2 : Int) ^ khN true (M + 64) - 1 = 0 := by unfold khN; rw [if_pos rfl, show 64 - (M + 64) = 0 by omega]; rfl
      have r2 : (2 : Int) ^ klN true (M + 64) - 1 = 2 ^ (64 - M) - 1 := by unfold klN; rw [if_pos rfl, show min 64 (128 - (M + 64)) = 64 - M by omega]
      rw [r1, r2]
      clear r1 r2
      generalize (2 : Int) ^ (64 - M) - 1 = R at *
      (repeat (first | refine awp_reg_seq rfl fun k => ?_ | refine awp_seq ?_ | refine awp_false rfl ?_ | refine awp_skip (?_ : Awp _ _ _ _ _ _) | (refine awp_ret ?_; (apply ends_pure ?_ ?_ ?_ ?_ ?_ (.inl rfl); rotate_left 1; (· (exact res_two rfl rfl rfl)); (· rfl); (· rfl); (· rfl); (· rfl))) | (apply runk_pure rfl rfl rfl ?_ ?_ ?_ ?_ ?_ ?_ ?_ ?_; rotate_left 6; (· (conv => (lhs; whnf))); (· exact Tryz.func42); (· rfl); (· rfl); (· exact (w)); (· (repeat (first | exact Rens.nil | (refine Rens.cons ?_ ?_; (· ((refine Ren.pureR ?_ rfl; (rfl)))))))); (· rfl)) | (apply runk0 rfl rfl (opok_move rfl ?_) ?_; rotate_left 1; (· (conv => (lhs; whnf)))) | (apply runk0 rfl rfl (opok_assign rfl ?_) ?_; rotate_left 1; (· (conv => (lhs; whnf)))) | (apply runk_fa rfl rfl rfl ?_ rfl rfl ?_ ?_ ?_ ?_; rotate_left 5; (· (conv => (lhs; whnf))); (· (unfold sizeIs; conv => (lhs; whnf; arg 1; whnf))); (· rfl); (· (conv => (lhs; whnf)))) | (((apply runk0 rfl rfl (opok_load rfl ?_ ?_ ?_ ?_) ?_; rotate_left 5; (· (conv => (lhs; whnf))); (· (conv => (lhs; whnf; arg 1; whnf; arg 2; whnf))); (· rfl); (· (conv => (lhs; whnf; arg 1; whnf)))))) | (apply runk0 rfl rfl (opok_loadA rfl ?_ ?_ ?_ ?_ ?_ ?_) ?_; rotate_left 6; (· (conv => (lhs; whnf))); (· (conv => (lhs; whnf; arg 1; whnf; arg 2; whnf))); (· rfl); (· (unfold sizeIs; conv => (lhs; whnf; arg 1; whnf))); (· (conv => (lhs; repeat (whnf; arg 2)))); (· rfl)) | (apply runk0 rfl rfl (opok_bin rfl ?_ ?_ ?_) ?_; rotate_left 3; (· (conv => (lhs; whnf))); (· (conv => (lhs; whnf))); (· (intro w; go_simp; rfl))) | (apply runk0 rfl rfl (opok_un rfl ?_ ?_) ?_; rotate_left 2; (· (conv => (lhs; whnf))); (· (intro w; go_simp; rfl))) | (apply runk0 rfl rfl (opok_min rfl ?_ ?_) ?_; rotate_left 2; (· (conv => (lhs; whnf))); (· (conv => (lhs; whnf)))) | (apply runk0 rfl rfl (opok_max rfl ?_ ?_) ?_; rotate_left 2; (· (conv => (lhs; whnf))); (· (conv => (lhs; whnf)))) | (apply runk_box rfl rfl rfl ?_ ?_ ?_ ?_; rotate_left 2; (· (conv => (lhs; whnf))); (· rfl); (· (conv => (lhs; whnf)))) | refine runk_end (by kernel_rfl) ?_))
def fstH (v : Bool) (hi n : Int) : Int := cutZ hi (khN v (clN v n))
def fstL (v : Bool) (lo n : Int) : Int := cutZ lo (klN v (clN v n))
def lstH (v : Bool) (hi n : Int) : Int := filZ hi (khN v (clN v n))
def lstL (v : Bool) (lo n : Int) : Int := filZ lo (klN v (clN v n))
theorem khN_le (v : Bool) (N : Nat) : khN v N ≤ 64 := by unfold khN; split <;> omega
theorem klN_le (v : Bool) (N : Nat) : klN v N ≤ 64 := by unfold klN; split <;> omega
set_option maxHeartbeats 4000000 in
set_option maxRecDepth 100000 in
theorem first_spec (v : Bool) (hi lo n : Int) (h0 : 0 ≤ hi) (h1 : hi < 18446744073709551616) (g0 : 0 ≤ lo) (g1 : lo < 18446744073709551616) : Spec Tryz.prog 43 [.agg [.val (.bool v), .val (.int .u64 hi), .val (.int .u64 lo)], .val (.int .i64 n)] [] (.agg [.val (.bool v), .val (.int .u64 (fstH v hi n)), .val (.int .u64 (fstL v lo n))]) [] := by
  have s := hosts_spec v hi lo n
  have e1 := andnot_low hi (khN v (clN v n)) h0 h1 (khN_le _ _)
  have e2 := andnot_low lo (klN v (clN v n)) g0 g1 (klN_le _ _)
  have r1 : fstH v hi n = hi - hi % 2 ^ khN v (clN v n) := rfl
  have r2 : fstL v lo n = lo - lo % 2 ^ klN v (clN v n) := rfl
  rw [← r1] at e1
  rw [← r2] at e2
  clear r1 r2
  generalize fstH v hi n = FH at *
  generalize fstL v lo n = FL at *
  generalize (2 : Int) ^ khN v (clN v n) - 1 = MH at *
  generalize (2 : Int) ^ klN v (clN v n) - 1 = ML at *
  refine spec_of_awp Tryz.func43 rfl (Nat.le_of_ble_eq_true rfl) fun ini => ?_
  simp only [Tryz.ntmps43]
  (repeat (first | refine awp_reg_seq rfl fun k => ?_ | (refine awp_ret ?_; (apply ends_pure ?_ ?_ ?_ ?_ ?_ (.inl rfl); rotate_left 1; (· (exact res_cell rfl rfl rfl rfl rfl)); (· rfl); (· rfl); (· rfl); (· rfl))) | (apply runk_pure rfl rfl rfl ?_ ?_ ?_ ?_ ?_ ?_ ?_ ?_; rotate_left 6; (· (conv => (lhs; whnf))); (· exact Tryz.func51); (· rfl); (· rfl); (· exact (s)); (· (repeat (first | exact Rens.nil | (refine Rens.cons ?_ ?_; (· ((refine Ren.pureR ?_ rfl; (rfl)))))))); (· rfl)) | (apply runk0 rfl rfl (opok_move rfl ?_) ?_; rotate_left 1; (· (conv => (lhs; whnf)))) | (apply runk0 rfl rfl (opok_assign rfl ?_) ?_; rotate_left 1; (· (conv => (lhs; whnf)))) | (apply runk_fa rfl rfl rfl ?_ rfl rfl ?_ ?_ ?_ ?_; rotate_left 5; (· (conv => (lhs; whnf))); (· (unfold sizeIs; conv => (lhs; whnf; arg 1; whnf))); (· rfl); (· (conv => (lhs; whnf)))) | (((apply runk0 rfl rfl (opok_load rfl ?_ ?_ ?_ ?_) ?_; rotate_left 5; (· (conv => (lhs; whnf))); (· (conv => (lhs; whnf; arg 1; whnf; arg 2; whnf))); (· rfl); (· (conv => (lhs; whnf; arg 1; whnf)))))) | (apply runk0 rfl rfl (opok_loadA rfl ?_ ?_ ?_ ?_ ?_ ?_) ?_; rotate_left 6; (· (conv => (lhs; whnf))); (· (conv => (lhs; whnf; arg 1; whnf; arg 2; whnf))); (· rfl); (· (unfold sizeIs; conv => (lhs; whnf; arg 1; whnf))); (· (conv => (lhs; repeat (whnf; arg 2)))); (· rfl)) | (apply runk0 rfl rfl (opok_bin rfl ?_ ?_ ?_) ?_; rotate_left 3; (· (conv => (lhs; whnf))); (· (conv => (lhs; whnf))); (· (intro w; go_simp; rfl))) | (apply runk0 rfl rfl (opok_extract rfl ?_ ?_) ?_; rotate_left 2; (· (conv => (lhs; whnf))); (· (conv => (lhs; whnf; arg 1; whnf)))) | (apply runk0 rfl rfl (opok_build rfl ?_ ?_ ?_ ?_ ?_) ?_; rotate_left 5; (· (conv => (lhs; whnf; arg 1; whnf))); (· (conv => (lhs; whnf; arg 1; repeat (whnf; arg 2)))); (· (conv => (lhs; whnf; arg 1; whnf))); (· (repeat (first | exact PartsOf.nil | (apply PartsOf.cons; (· (conv => (lhs; whnf))))))); (· (conv => (lhs; whnf; arg 1; repeat (whnf; arg 2))))) | (apply runk_box rfl rfl rfl ?_ ?_ ?_ ?_; rotate_left 2; (· (conv => (lhs; whnf))); (· rfl); (· (conv => (lhs; whnf)))) | (apply runk_alloc rfl rfl rfl ?_ ?_ ?_; rotate_left 2; (· (conv => (lhs; whnf; arg 1; whnf))); (· (conv => (lhs; whnf)))) | (apply runk_store rfl rfl rfl ?_ ?_ ?_ ?_ ?_ ?_ ?_ ?_ ?_ ?_ ?_; rotate_left 9; (· (conv => (lhs; whnf))); (· (conv => (lhs; whnf))); (· (conv => (lhs; whnf; arg 1; whnf; arg 2; whnf))); (· rfl); (· (conv => (lhs; whnf))); (· rfl); (· (unfold sizeIs; conv => (lhs; whnf; arg 1; whnf))); (· rfl); (· rfl); (· (conv => (lhs; repeat (whnf; arg 2))))) | refine runk_end (by kernel_rfl) ?_))
theorem clN_in (v : Bool) (n : Int) (h0 : 0 ≤ n) (h1 : n ≤ (wiN v : Int)) : (clN v n : Int) = n := by unfold clN; omega
end Go.Proofs.YtboddbheljenhaaGreatDoor
namespace Go.Proofs.YtboddbheljenhaaGreatDoor
open Go.RowKit
def canD (l : List UInt8) : Bool := match l with
  | [] => false
  | x :: r => (r.isEmpty || x != 48) && (x :: r).all isDig
theorem canD_dig {l : List UInt8} (h : canD l = true) : ∀ x ∈ l, isDig x = true := by
  match l, h with
  | x :: r, h =>
    unfold canD at h
    simp only [Bool.and_eq_true, List.all_eq_true] at h
    exact h.2
theorem canD_ne {l : List UInt8} (h : canD l = true) : l ≠ [] := by
  rintro rfl
  cases h
theorem canD_47 {l : List UInt8} (h : (47 : UInt8) ∈ l) : canD l = false := by
  cases hc : canD l with
  | false => rfl
  | true =>
    have := canD_dig hc 47 h
    revert this
    decide
theorem parse_over : ∀ (l : List UInt8) (acc : Nat), (∀ x ∈ l, isDig x = true) → acc < 18446744073709551616 → 18446744073709551616 ≤ numOf acc l → Lib.parseUint10 acc l = .range
  | [], acc, _, h1, h2 => by
    have : numOf acc [] = acc := rfl
    omega
  | x :: l, acc, hd, h1, h2 => by
    have hx := hd x List.mem_cons_self
    simp only [isDig, Bool.and_eq_true, decide_eq_true_eq] at hx
    rw [numOf_cons] at h2
    unfold Lib.parseUint10
    rw [if_pos ⟨hx.1, hx.2⟩]
    by_cases c1 : 1844674407370955162 ≤ acc
    · rw [if_pos c1]
    · rw [if_neg c1]
      by_cases c2 : 18446744073709551616 ≤ acc * 10 + (x.toNat - 48)
      · rw [if_pos c2]
      · rw [if_neg c2]
        exact parse_over l _ (fun y hy => hd y (List.mem_cons_of_mem _ hy)) (by omega) h2
theorem atoi_can {l : List UInt8} (h : canD l = true) : Lib.atoiAll l = if 9223372036854775808 ≤ numOf 0 l then .range else .ok (numOf 0 l : Int) := by
  have hd := canD_dig h
  match l, canD_ne h, hd with
  | x :: r, _, hd =>
    have hx := hd x List.mem_cons_self
    simp only [isDig, Bool.and_eq_true, decide_eq_true_eq] at hx
    rw [Lib.atoiAll_plain x r (by omega) (by omega)]
    have hp : Lib.parseMag (x :: r) = Lib.parseUint10 0 (x :: r) := by unfold Lib.parseMag; rw [if_neg (by simp)]
    rw [hp]
    by_cases c : numOf 0 (x :: r) < 18446744073709551616
    · rw [parse_digits _ _ hd c]
      rfl
    · rw [parse_over _ _ hd (by omega) (by omega), if_pos (by omega)]
      rfl
theorem octN_47 {p : List UInt8} {n : Nat} (h : octN p = some n) : (47 : UInt8) ∉ p := fun hm => by
  have e := (octN_some.1 h).2
  rw [← e] at hm
  have := decDigits_dig n 47 hm
  revert this
  decide
theorem octF_47 : ∀ (ps : List (List UInt8)) (n m : Nat), octF ps n = some m → ∀ p ∈ ps, (47 : UInt8) ∉ p
  | [], _, _, _ => by simp
  | q :: r, n, m, h => by
    unfold octF at h
    cases e : octN q with
    | none => rw [e] at h; cases h
    | some x =>
      rw [e, Option.bind_some] at h
      intro p hp
      rcases List.mem_cons.1 hp with rfl | hp
      · exact octN_47 e
      · exact octF_47 r _ m h p hp
theorem p4N_47 {l : List UInt8} {n : Nat} (h : p4N l = some n) : (47 : UInt8) ∉ l := fun hm => by
  unfold p4N at h
  by_cases c : (splitC 46 l).length = 4
  · rw [if_pos c] at h
    rw [← joinC_split 46 l] at hm
    obtain ⟨w, hw, hx⟩ := mem_joinC (by decide) hm
    exact octF_47 _ _ _ h w hw hx
  · rw [if_neg c] at h; cases h
theorem grpN_47 {p : List UInt8} {n : Nat} (h : grpN p = some n) : (47 : UInt8) ∉ p := fun hm => by
  unfold grpN hexP at h
  by_cases c : p.length ≤ 4
  · rw [if_pos c] at h
    by_cases c2 : p = []
    · rw [if_pos c2] at h; cases h
    · rw [if_neg c2] at h
      have := hexN_mem p 0 n h 47 hm
      revert this
      decide
  · rw [if_neg c] at h; cases h
theorem pgF_47 : ∀ (e : Bool) (ps : List (List UInt8)) (xs : List Nat), pgF e ps = some xs → ∀ p ∈ ps, (47 : UInt8) ∉ p
  | _, [], _, _ => by simp
  | e, q :: r, xs, h => by
    unfold pgF at h
    intro p hp
    by_cases c : (e && r.isEmpty && hasB q 46) = true
    · rw [if_pos c] at h
      have hr : r = [] := by
        simp only [Bool.and_eq_true, List.isEmpty_iff] at c
        exact c.1.2
      subst hr
      cases e4 : p4N q with
      | none => rw [e4] at h; cases h
      | some n =>
        rw [List.mem_singleton.1 hp]
        exact p4N_47 e4
    · rw [if_neg c] at h
      cases e4 : grpN q with
      | none => rw [e4] at h; cases h
      | some n =>
        rw [e4, Option.bind_some] at h
        cases e5 : pgF e r with
        | none => rw [e5] at h; cases h
        | some ys =>
          rcases List.mem_cons.1 hp with rfl | hp
          · exact grpN_47 e4
          · exact pgF_47 e r ys e5 p hp
theorem pgN_47 {e : Bool} {l : List UInt8} {xs : List Nat} (h : pgN e l = some xs) : (47 : UInt8) ∉ l := fun hm => by
  unfold pgN at h
  by_cases c : l = []
  · subst c; cases hm
  · rw [if_neg c] at h
    rw [← joinC_split 58 l] at hm
    obtain ⟨w, hw, hx⟩ := mem_joinC (by decide) hm
    exact pgF_47 _ _ _ h w hw hx
theorem cut_mem {l : List UInt8} {x : UInt8} (hx : x ≠ 58) (hm : x ∈ l) (hc : (Lib.cut l [58, 58]).2.2 = true) : x ∈ (Lib.cut l [58, 58]).1 ∨ x ∈ (Lib.cut l [58, 58]).2.1 := by
  unfold Lib.cut at hc ⊢
  by_cases h : 0 ≤ Lib.index l [58, 58]
  · rw [if_pos h] at hc ⊢
    dsimp only
    rcases Lib.index_spec l [58, 58] with ⟨e, -⟩ | ⟨i, e, hi, ho, -⟩
    · omega
    · rw [e, Int.toNat_natCast]
      have h0 := Lib.occAt_head rfl ho
      have h1 := Lib.occAt_second rfl ho
      have hl : i + 1 < l.length := by
        rcases Nat.lt_or_ge (i + 1) l.length with h | h
        · exact h
        · rw [List.getElem?_eq_none h] at h1; cases h1
      have e2 : l = l.take i ++ 58 :: 58 :: l.drop (i + 2) := by
        conv => lhs; rw [← List.take_append_drop i l]
        rw [List.drop_eq_getElem_cons (by omega), List.drop_eq_getElem_cons (by omega)]
        rw [List.getElem?_eq_getElem (by omega)] at h0 h1
        rw [Option.some.inj h0, Option.some.inj h1]
      rw [e2] at hm
      rcases List.mem_append.1 hm with hm | hm
      · exact .inl hm
      · rcases List.mem_cons.1 hm with hm | hm
        · exact absurd hm hx
        · rcases List.mem_cons.1 hm with hm | hm
          · exact absurd hm hx
          · exact .inr hm
  · rw [if_neg h] at hc; cases hc
theorem p6N_47 {l : List UInt8} {xs : List Nat} (h : p6N l = some xs) : (47 : UInt8) ∉ l := fun hm => by
  unfold p6N at h
  by_cases c : (Lib.cut l [58, 58]).2.2 = true
  · rw [if_pos c] at h
    cases ea : pgN false (Lib.cut l [58, 58]).1 with
    | none => rw [ea] at h; cases h
    | some a =>
      rw [ea, Option.bind_some] at h
      cases eb : pgN true (Lib.cut l [58, 58]).2.1 with
      | none => rw [eb] at h; cases h
      | some b =>
        rcases cut_mem (by decide) hm c with hm | hm
        · exact pgN_47 ea hm
        · exact pgN_47 eb hm
  · rw [if_neg c] at h
    cases ea : pgN true l with
    | none => rw [ea] at h; cases h
    | some a => exact pgN_47 ea hm
theorem prsA_47 {l : List UInt8} (hm : (47 : UInt8) ∈ l) : prsA l = none := by
  unfold prsA
  by_cases c : 45 < l.length
  · rw [if_pos c]
  · rw [if_neg c]
    by_cases c2 : hasB l 58 = true
    · rw [if_pos c2]
      cases e : p6N l with
      | none => rfl
      | some xs => exact absurd hm (p6N_47 e)
    · rw [if_neg c2]
      cases e : p4N l with
      | none => rfl
      | some n => exact absurd hm (p4N_47 e)
def errP (e : Int) : AVal := .tuple [.agg [.val (.bool false), .val (.int .u64 0), .val (.int .u64 0), .val (.int .i64 0)], .val (.int .i64 e)]
def pfV (h t : List UInt8) : AVal := match prsA h with
  | none => errP 2
  | some (v, hi, lo) => if canD t = true then (if numOf 0 t ≤ wiN v then (if fstH v hi (numOf 0 t : Nat) = hi ∧ fstL v lo (numOf 0 t : Nat) = lo then .tuple [.agg [.val (.bool v), .val (.int .u64 hi), .val (.int .u64 lo), .val (.int .i64 (numOf 0 t : Nat))], .val (.int .i64 0)] else errP 5) else errP 9) else errP 2
def pfA (l : List UInt8) : AVal := pfV (Lib.cut l [47]).1 (Lib.cut l [47]).2.1
theorem cut_none {l : List UInt8} {c : UInt8} (h : c ∉ l) : Lib.cut l [c] = (l, [], false) := by
  unfold Lib.cut
  rcases Lib.index_spec l [c] with ⟨e, -⟩ | ⟨i, e, hi, ho, -⟩
  · rw [e, if_neg (by decide)]
  · exact absurd (List.mem_of_getElem? (Lib.occAt_head rfl ho)) h
theorem cut_1 {a b : List UInt8} {c : UInt8} (h : c ∉ a) : Lib.cut (a ++ c :: b) [c] = (a, b, true) := by
  have hi : Lib.index (a ++ c :: b) [c] = (a.length : Int) := by
    refine Lib.index_first (by simp) ?_ fun j hj => ?_
    · unfold Lib.occAt
      rw [List.drop_left]
      simp [List.isPrefixOf]
    · cases ho : Lib.occAt (a ++ c :: b) [c] j with
      | false => rfl
      | true =>
        exfalso
        unfold Lib.occAt at ho
        rw [List.drop_append_of_le_length (Nat.le_of_lt hj), List.drop_eq_getElem_cons hj] at ho
        simp only [List.cons_append, List.isPrefixOf, Bool.and_eq_true, beq_iff_eq] at ho
        exact h (ho.1 ▸ List.getElem_mem hj)
  unfold Lib.cut
  rw [hi, if_pos (by omega), Int.toNat_natCast]
  simp
theorem pfV_bad {h t : List UInt8} (hc : canD t = false) : pfV h t = errP 2 := by
  unfold pfV
  rw [hc]
  cases prsA h with
  | none => rfl
  | some a => rfl
theorem pfV_none {h t : List UInt8} (hc : prsA h = none) : pfV h t = errP 2 := by
  unfold pfV
  rw [hc]
theorem pfA_no {l : List UInt8} (h : (47 : UInt8) ∉ l) : pfA l = errP 2 := by
  unfold pfA
  rw [cut_none h]
  exact pfV_bad rfl
theorem pfA_last (H T : List UInt8) : pfA (H ++ 47 :: T) = pfV H T := by
  unfold pfA
  by_cases h : (47 : UInt8) ∈ H
  · rw [pfV_none (prsA_47 h)]
    obtain ⟨a, b, rfl, hn⟩ : ∃ a b, H = a ++ 47 :: b ∧ (47 : UInt8) ∉ a := List.eq_append_cons_of_mem h
    rw [List.append_assoc, List.cons_append, cut_1 hn]
    exact pfV_bad (canD_47 (by simp))
  · rw [cut_1 h]
end Go.Proofs.YtboddbheljenhaaGreatDoor
